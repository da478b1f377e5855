/-
 Contracts and what they rest on.
-/
import Derived.Lib.MinMax
import Derived.Laws.Strings2
import Derived.Laws.Slices
import Derived.KernelRfl
import Derived.Test.YthlileddhgglnaaGreatDoorY19
namespace Go.Proofs.YthlileddhgglnaaGreatDoor
open Go.RowKit
set_option linter.unusedVariables false
theorem at_name : ∀ (ws : List Wr) (k : Int) (n : ByteArray) (r c : Int), atW ws k = some (n, r, c) → ∃ v ∈ ws, v.n = n
 | [], k, n, r, c, h => by cases h
 | w :: ws, k, n, r, c, h => by
  rw [atW] at h
  by_cases h0 : k < 0
  ·rw [if_pos h0] at h; cases h
  ·rw [if_neg h0] at h
   by_cases h1 : k < w.x * w.y
   ·rw [if_pos h1] at h
    simp only [Option.some.injEq, Prod.mk.injEq] at h
    exact ⟨w, List.mem_cons_self .., h.1⟩
   ·rw [if_neg h1] at h
    obtain ⟨v, hv, e⟩ := at_name ws _ n r c h
    exact ⟨v, List.mem_cons_of_mem _ hv, e⟩
def namesApart : List Wr → Prop
 | [] => True
 | w :: ws => (∀ v ∈ ws, (w.n.toList == v.n.toList) = false) ∧ namesApart ws
theorem at_index : ∀ (ws : List Wr) (K k : Int) (n : ByteArray) (r c : Int), (∀ x ∈ ws, wareB x) → namesApart ws → atW ws k = some (n, r, c) → indexW ws K n r c = some (K + k)
 | [], K, k, n, r, c, _, _, h => by cases h
 | w :: ws, K, k, n, r, c, hb, ha, h => by
  obtain ⟨b1, b2, b3, b4⟩ := hb w (List.mem_cons_self ..)
  rw [atW] at h
  by_cases h0 : k < 0
  ·rw [if_pos h0] at h; cases h
  ·rw [if_neg h0] at h
   by_cases h1 : k < w.x * w.y
   ·rw [if_pos h1] at h
    simp only [Option.some.injEq, Prod.mk.injEq] at h
    obtain ⟨rfl, rfl, rfl⟩ := h
    have e1 := Int.emod_nonneg k (by omega : w.y ≠ 0)
    have e2 := Int.emod_lt_of_pos k (by omega : 0 < w.y)
    have e3 := Int.ediv_nonneg (by omega : 0 ≤ k) (by omega : 0 ≤ w.y)
    have e4 : k / w.y < w.x := Int.ediv_lt_of_lt_mul (by omega) (by rw [Int.mul_comm] at h1; rw [Int.mul_comm]; exact h1)
    have e5 := Int.mul_ediv_add_emod k w.y
    rw [indexW, if_pos (by simp), if_pos ⟨e3, e4, e1, e2⟩]
    congr 1
    rw [Int.mul_comm (k / w.y) w.y]
    omega
   ·rw [if_neg h1] at h
    obtain ⟨v, hv, e⟩ := at_name ws _ n r c h
    have hne := ha.1 v hv
    rw [e] at hne
    rw [indexW, if_neg (by rw [hne]; decide)]
    have := at_index ws (K + w.x * w.y) (k - w.x * w.y) n r c (fun x hx => hb x (List.mem_cons_of_mem _ hx)) ha.2 h
    rw [this]
    congr 1
    omega
theorem fills_mem (ws : List Wr) : ∀ (l : List Nat) (i : Nat) (f : Fl), f ∈ fillsF ws i l → ∃ k : Nat, i ≤ k ∧ atW ws (k : Int) = some (f.n, f.r, f.c) ∧ 60000 ≤ f.v ∧ f.v < 260000
 | [], i, f, h => by simp [fillsF] at h
 | x :: l, i, f, h => by
  have up : ∀ f, f ∈ fillsF ws (i + 1) l → ∃ k : Nat, i ≤ k ∧ atW ws (k : Int) = some (f.n, f.r, f.c) ∧ 60000 ≤ f.v ∧ f.v < 260000 := fun f hf => by
   obtain ⟨k, h1, h2⟩ := fills_mem ws l (i + 1) f hf
   exact ⟨k, by omega, h2⟩
  unfold fillsF at h
  cases hat : atW ws (i : Int) with
  | none => rw [hat] at h; exact up f h
  | some p =>
   obtain ⟨n, r, c⟩ := p
   rw [hat] at h
   dsimp only at h
   by_cases hx : 0 < x % 6
   ·rw [if_pos hx] at h
    rcases List.mem_cons.1 h with rfl | h
    ·exact ⟨i, Nat.le_refl _, hat, by simp only; omega, by simp only; omega⟩
    ·exact up f h
   ·rw [if_neg hx] at h
    exact up f h
theorem index_same : ∀ (ws : List Wr) (K : Int) (n m : ByteArray) (r c : Int), n.toList = m.toList → indexW ws K n r c = indexW ws K m r c
 | [], _, _, _, _, _, _ => rfl
 | w :: ws, K, n, m, r, c, h => by rw [indexW, indexW, h, index_same ws _ n m r c h]
theorem fills_apart (ws : List Wr) (hb : ∀ x ∈ ws, wareB x) (ha : namesApart ws) : ∀ (l : List Nat) (i : Nat), (∀ j f, (fillsF ws i l)[j]? = some f → filledW ((fillsF ws i l).take j) f.n f.r f.c = false)
 | [], i => fun j f h => by simp [fillsF] at h
 | x :: l, i => by
  have ih := fills_apart ws hb ha l (i + 1)
  have hm := fills_mem ws l (i + 1)
  unfold fillsF
  cases hat : atW ws (i : Int) with
  | none => exact ih
  | some p =>
   obtain ⟨n, r, c⟩ := p
   dsimp only
   by_cases hx : 0 < x % 6
   ·rw [if_pos hx]
    intro j f hj
    cases j with
    | zero => rfl
    | succ j =>
     have hj' : (fillsF ws (i + 1) l)[j]? = some f := by simpa using hj
     have h1 := ih j f hj'
     obtain ⟨k, hk, hak, _⟩ := hm f (List.mem_of_getElem? hj')
     rw [List.take_succ_cons]
     unfold filledW at h1 ⊢
     rw [List.any_cons, h1, Bool.or_false]
     cases hh : ((n.toList == f.n.toList) && decide (r = f.r) && decide (c = f.c))
     ·rfl
     ·exfalso
      simp only [Bool.and_eq_true, decide_eq_true_eq, beq_iff_eq] at hh
      obtain ⟨⟨e1, rfl⟩, rfl⟩ := hh
      have i1 := at_index ws 0 _ _ _ _ hb ha hat
      have i2 := at_index ws 0 _ _ _ _ hb ha hak
      rw [index_same ws 0 n f.n _ _ e1] at i1
      rw [i1] at i2
      simp only [Option.some.injEq] at i2
      omega
   ·rw [if_neg hx]
    exact ih
theorem seat_names (a b c d : Int) : namesApart (wares7 a b c d) := by
 unfold wares7 namesApart namesApart namesApart
 refine ⟨fun v hv => ?_, fun v hv => by simp at hv, trivial⟩
 rcases List.mem_singleton.1 hv with rfl
 unfold namePlate nameTube
 rw [toList_data, toList_data]
 rfl
theorem seat_wares {a b c d : Int} (ha : 0 ≤ a ∧ a ≤ 255) (hb : 0 ≤ b ∧ b ≤ 255) (hc : 0 ≤ c ∧ c ≤ 255) (hd : 0 ≤ d ∧ d ≤ 255) : ∀ x ∈ wares7 a b c d, wareB x := by
 intro x hx
 unfold wares7 at hx
 simp only [List.mem_cons, List.not_mem_nil, or_false] at hx
 rcases hx with rfl | rfl
 ·unfold wareB; simp only; omega
 ·unfold wareB; simp only; omega
theorem nameS_plate : nameS namePlate = true := by kernel_rfl
theorem nameS_tube : nameS nameTube = true := by kernel_rfl
theorem nameS_t1 : nameS nameT1 = true := by kernel_rfl
theorem nameS_t2 : nameS nameT2 = true := by kernel_rfl
theorem seat_right {a b c d : Int} (ha : 0 ≤ a ∧ a ≤ 255) (hb : 0 ≤ b ∧ b ≤ 255) (hc : 0 ≤ c ∧ c ≤ 255) (hd : 0 ≤ d ∧ d ≤ 255) (l : List Nat) : rightD (seatD a b c d l) = true := by
 have hw := seat_wares ha hb hc hd
 have hn := seat_names a b c d
 have hf : fillsOk (wares7 a b c d) (fillsF (wares7 a b c d) 0 l) = true := by
  unfold fillsOk
  rw [List.all_eq_true]
  intro i hi
  have hlt := List.mem_range.1 hi
  have hF := List.getElem?_eq_getElem hlt
  rw [hF]
  generalize (fillsF (wares7 a b c d) 0 l)[i] = f at hF
  obtain ⟨k, _, hk, v1, v2⟩ := fills_mem _ l 0 f (List.mem_of_getElem? hF)
  have hi2 := at_index _ 0 _ _ _ _ hw hn hk
  have hap := fills_apart _ hw hn l 0 i f hF
  simp only [Bool.and_eq_true, inB_iff, Bool.not_eq_true']
  refine ⟨⟨?_, by omega, by omega⟩, hap⟩
  unfold hasW
  rw [hi2]
  rfl
 unfold rightD seatD
 simp only [Bool.and_eq_true, decide_eq_true_eq]
 refine ⟨⟨⟨⟨by unfold wares7; simp, ?_⟩, ?_⟩, ?_⟩, hf⟩
 ·unfold tips7; split <;> simp
 ·rw [apartW_iff]
  intro i w hw'
  unfold wares7 at hw' ⊢
  match i with
  | 0 =>
   obtain rfl : _ = w := by simpa using hw'
   refine ⟨?_, rfl⟩
   unfold wareOk
   simp only [nameS_plate, shape_right, Bool.and_true, Bool.true_and, Bool.and_eq_true, inB_iff]
   omega
  | 1 =>
   obtain rfl : _ = w := by simpa using hw'
   refine ⟨?_, ?_⟩
   ·unfold wareOk
    simp only [nameS_tube, shape_right, Bool.and_true, Bool.true_and, Bool.and_eq_true, inB_iff]
    omega
   ·unfold namedW namePlate nameTube
    simp only [List.take_succ_cons, List.take_zero, List.any_cons, List.any_nil, Bool.or_false]
    rw [toList_data, toList_data]
    rfl
  | n + 2 => simp at hw'
 ·rw [apartW_iff]
  intro i w hw'
  have ok1 : tipOk ⟨nameT1, cap7 c, filt7 d, err7 d, outerOf (c % 3).toNat⟩ = true := by
   unfold tipOk
   simp only [nameS_t1, outer_right, Bool.and_true, Bool.true_and, Bool.and_eq_true, inB_iff]
   unfold cap7 filt7 err7
   refine ⟨⟨?_, ?_⟩, ?_⟩ <;> (repeat' split) <;> omega
  have ok2 : tipOk ⟨nameT2, 50000, 40000, d % 30, outerOf (d % 3).toNat⟩ = true := by
   unfold tipOk
   simp only [nameS_t2, outer_right, Bool.and_true, Bool.true_and, Bool.and_eq_true, inB_iff]
   omega
  unfold tips7 at hw' ⊢
  match i with
  | 0 =>
   obtain rfl : _ = w := by simpa using hw'
   exact ⟨ok1, rfl⟩
  | 1 =>
   by_cases h5 : d % 5 = 0
   ·rw [if_pos h5] at hw'; simp at hw'
   ·rw [if_neg h5] at hw' ⊢
    obtain rfl : _ = w := by simpa using hw'
    refine ⟨ok2, ?_⟩
    unfold namedW nameT1 nameT2
    simp only [List.take_succ_cons, List.take_zero, List.any_cons, List.any_nil, Bool.or_false]
    rw [toList_data, toList_data]
    rfl
  | n + 2 =>
   by_cases h5 : d % 5 = 0
   ·rw [if_pos h5] at hw'; simp at hw'
   ·rw [if_neg h5] at hw'; simp at hw'
end Go.Proofs.YthlileddhgglnaaGreatDoor
namespace Go.Proofs.YthlileddhgglnaaGreatDoor
open Go.RowKit
set_option linter.unusedVariables false
theorem count_pos : ∀ ws : List Wr, (∀ x ∈ ws, wareB x) → 0 ≤ countW ws
 | [], _ => by decide
 | w :: ws, h => by
  obtain ⟨b1, b2, b3, b4⟩ := h w (List.mem_cons_self ..)
  have := count_pos ws (fun x hx => h x (List.mem_cons_of_mem _ hx))
  have := Int.mul_nonneg (by omega : 0 ≤ w.x) (by omega : 0 ≤ w.y)
  show 0 ≤ w.x * w.y + countW ws
  omega
theorem at_is : ∀ (ws : List Wr) (k : Int), (∀ x ∈ ws, wareB x) → (atW ws k).isSome = (decide (0 ≤ k) && decide (k < countW ws))
 | [], k, _ => by
  show false = _
  by_cases h : 0 ≤ k
  ·rw [decide_eq_false (show ¬ k < countW [] by show ¬ k < 0; omega), Bool.and_false]
  ·rw [decide_eq_false h, Bool.false_and]
 | w :: ws, k, h => by
  obtain ⟨b1, b2, b3, b4⟩ := h w (List.mem_cons_self ..)
  have hp := count_pos ws (fun x hx => h x (List.mem_cons_of_mem _ hx))
  have ih := at_is ws (k - w.x * w.y) (fun x hx => h x (List.mem_cons_of_mem _ hx))
  have hc : countW (w :: ws) = w.x * w.y + countW ws := rfl
  rw [atW, hc]
  have hm := Int.mul_nonneg (by omega : 0 ≤ w.x) (by omega : 0 ≤ w.y)
  generalize w.x * w.y = P at *
  by_cases h0 : k < 0
  ·rw [if_pos h0, decide_eq_false (show ¬ 0 ≤ k by omega), Bool.false_and]
   rfl
  ·rw [if_neg h0, decide_eq_true (show 0 ≤ k by omega), Bool.true_and]
   by_cases h1 : k < P
   ·rw [if_pos h1, decide_eq_true (show k < P + countW ws by omega)]
    rfl
   ·rw [if_neg h1, ih, decide_eq_true (show 0 ≤ k - P by omega), Bool.true_and]
    by_cases h2 : k - P < countW ws
    ·rw [decide_eq_true h2, decide_eq_true (by omega)]
    ·rw [decide_eq_false h2, decide_eq_false (by omega)]
theorem at_range : ∀ (ws : List Wr) (k : Int) (n : ByteArray) (r c : Int), (∀ x ∈ ws, wareB x) → atW ws k = some (n, r, c) → 0 ≤ r ∧ r < 8 ∧ 0 ≤ c ∧ c < 12
 | [], k, n, r, c, _, h => by cases h
 | w :: ws, k, n, r, c, hb, h => by
  obtain ⟨b1, b2, b3, b4⟩ := hb w (List.mem_cons_self ..)
  rw [atW] at h
  by_cases h0 : k < 0
  ·rw [if_pos h0] at h; cases h
  ·rw [if_neg h0] at h
   by_cases h1 : k < w.x * w.y
   ·rw [if_pos h1] at h
    simp only [Option.some.injEq, Prod.mk.injEq] at h
    obtain ⟨rfl, rfl, rfl⟩ := h
    have e1 := Int.emod_nonneg k (by omega : w.y ≠ 0)
    have e2 := Int.emod_lt_of_pos k (by omega : 0 < w.y)
    have e3 := Int.ediv_nonneg (by omega : 0 ≤ k) (by omega : 0 ≤ w.y)
    have e4 : k / w.y < w.x := Int.ediv_lt_of_lt_mul (by omega) (by rw [Int.mul_comm] at h1; rw [Int.mul_comm]; exact h1)
    omega
   ·rw [if_neg h1] at h
    exact at_range ws _ n r c (fun x hx => hb x (List.mem_cons_of_mem _ hx)) h
theorem indexC_none : ∀ (ws : List Wr) (K : Int) (n : ByteArray) (r c : Int), (∀ v ∈ ws, (v.n.toList == n.toList) = false) → indexC ws K n r c = none
 | [], K, n, r, c, _ => rfl
 | w :: ws, K, n, r, c, h => by
  have hw := h w (List.mem_cons_self ..)
  have hb : hasB w.n w.x w.y n r c = false := by unfold hasB; rw [hw]; rfl
  rw [indexC, hb, if_neg (by decide)]
  exact indexC_none ws _ n r c (fun v hv => h v (List.mem_cons_of_mem _ hv))
theorem indexC_eq : ∀ (ws : List Wr) (K : Int) (n : ByteArray) (r c : Int), namesApart ws → indexC ws K n r c = indexW ws K n r c
 | [], K, n, r, c, _ => rfl
 | w :: ws, K, n, r, c, h => by
  rw [indexC, indexW]
  cases hn : (w.n.toList == n.toList)
  ·have hb : hasB w.n w.x w.y n r c = false := by unfold hasB; rw [hn]; rfl
   rw [hb, if_neg (by decide), if_neg (by decide)]
   exact indexC_eq ws _ n r c h.2
  ·rw [if_pos rfl]
   by_cases hr : 0 ≤ r ∧ r < w.x ∧ 0 ≤ c ∧ c < w.y
   ·have hb : hasB w.n w.x w.y n r c = true := by
     unfold hasB
     rw [hn, decide_eq_true hr.1, decide_eq_true hr.2.1, decide_eq_true hr.2.2.1, decide_eq_true hr.2.2.2]; rfl
    rw [hb, if_pos rfl, if_pos hr]
   ·have hb : hasB w.n w.x w.y n r c = false := by
     cases e : hasB w.n w.x w.y n r c
     ·rfl
     ·have := hasB_in e; exact absurd this hr
    rw [hb, if_neg (by decide), if_neg hr]
    refine indexC_none ws _ n r c (fun v hv => ?_)
    have h1 := h.1 v hv
    rw [beq_iff_eq] at hn
    rw [hn] at h1
    cases e : (v.n.toList == n.toList)
    ·rfl
    ·rw [beq_iff_eq] at e
     rw [e, beq_self_eq_true] at h1
     cases h1
end Go.Proofs.YthlileddhgglnaaGreatDoor
namespace Go.Proofs.YthlileddhgglnaaGreatDoor
open Go.RowKit
set_option linter.unusedVariables false
def tolW (ws : List Wr) (n : ByteArray) : Int := match ws.find? (fun r => r.n.toList == n.toList) with
 | some r => r.z
 | none => 0
def spanF (ws : List Wr) (f : Fl) : Int × Int := (max (f.v - tolW ws f.n) 0, f.v + tolW ws f.n)
def slotF (ws : List Wr) (f : Fl) : Nat := ((indexC ws 0 f.n f.r f.c).getD 0).toNat
def startF (ws : List Wr) (S : List (Int × Int)) (fs : List Fl) : List (Int × Int) := fs.foldl (fun S f => S.set (slotF ws f) (spanF ws f)) S
def startD (d : Dk) : List (Int × Int) := startF d.ws (List.replicate (countW d.ws).toNat (0, 0)) d.fs
theorem startF_take (ws : List Wr) (S : List (Int × Int)) {fs : List Fl} {i : Nat} {f : Fl} (h : fs[i]? = some f) : startF ws S (fs.take (i + 1)) = (startF ws S (fs.take i)).set (slotF ws f) (spanF ws f) := by
 unfold startF
 rw [List.take_add_one, h, List.foldl_append]
 rfl
theorem startF_len (ws : List Wr) : ∀ (fs : List Fl) (S : List (Int × Int)), (startF ws S fs).length = S.length
 | [], _ => rfl
 | f :: fs, S => by
  show (startF ws (S.set (slotF ws f) (spanF ws f)) fs).length = _
  rw [startF_len ws fs, List.length_set]
theorem startD_len (d : Dk) : (startD d).length = (countW d.ws).toNat := by
 unfold startD
 rw [startF_len, List.length_replicate]
def flatP (S : List (Int × Int)) : List Value := S.flatMap (fun s => [.int .i64 s.1, .int .i64 s.2])
theorem flatP_len (S : List (Int × Int)) : (flatP S).length = S.length * 2 := by
 induction S with
 | nil => rfl
 | cons x l ih =>
  show ([Value.int .i64 x.1, .int .i64 x.2] ++ flatP l).length = _
  rw [List.length_append, ih, List.length_cons]
  simp
  omega
theorem flatP_get : ∀ (S : List (Int × Int)) (i : Nat) (s : Int × Int), S[i]? = some s → (flatP S)[i * 2]? = some (.int .i64 s.1) ∧ (flatP S)[i * 2 + 1]? = some (.int .i64 s.2)
 | [], _, _, h => by simp at h
 | x :: l, 0, s, h => by
  obtain rfl : x = s := by simpa using h
  exact ⟨rfl, rfl⟩
 | x :: l, i + 1, s, h => by
  have ih := flatP_get l i s (by simpa using h)
  have e1 : (i + 1) * 2 = i * 2 + 2 := by omega
  rw [e1]
  exact ih
theorem flatP_set : ∀ (S : List (Int × Int)) (i : Nat) (a b : Int), i < S.length → ((flatP S).set (i * 2) (.int .i64 a)).set (i * 2 + 1) (.int .i64 b) = flatP (S.set i (a, b))
 | [], _, _, _, h => by simp at h
 | x :: l, 0, a, b, _ => rfl
 | x :: l, i + 1, a, b, h => by
  have ih := flatP_set l i a b (by simpa using h)
  have e1 : (i + 1) * 2 = i * 2 + 2 := by omega
  rw [e1]
  show Value.int .i64 x.1 :: Value.int .i64 x.2 :: (((flatP l).set (i * 2) (.int .i64 a)).set (i * 2 + 1) (.int .i64 b)) = _
  rw [ih]
  rfl
theorem made_spans (n : Nat) : (madeCells #[.int .i64 0, .int .i64 0] (n * 2)).toList = flatP (List.replicate n (0, 0)) := by
 apply List.ext_getElem?
 intro j
 by_cases hj : j < n * 2
 ·obtain ⟨i, r, rfl, hr⟩ : ∃ i r, j = i * 2 + r ∧ r < 2 := ⟨j / 2, j % 2, by omega, by omega⟩
  have hi : (List.replicate n ((0 : Int), (0 : Int)))[i]? = some (0, 0) := by rw [List.getElem?_replicate, if_pos (by omega)]
  have hg := flatP_get _ i _ hi
  have hm : (madeCells #[.int .i64 0, .int .i64 0] (n * 2)).toList[i * 2 + r]? = some (.int .i64 0) := by
   unfold madeCells
   rw [Array.getElem?_toList, Array.getElem?_map, Array.getElem?_range]
   simp only [hj, if_true, Option.map_some]
   rcases (by omega : r = 0 ∨ r = 1) with rfl | rfl
   ·have : (i * 2 + 0) % (#[Value.int .i64 0, .int .i64 0] : Array Value).size = 0 := by show (i * 2 + 0) % 2 = 0; omega
    rw [this]; rfl
   ·have : (i * 2 + 1) % (#[Value.int .i64 0, .int .i64 0] : Array Value).size = 1 := by show (i * 2 + 1) % 2 = 1; omega
    rw [this]; rfl
  rw [hm]
  rcases (by omega : r = 0 ∨ r = 1) with rfl | rfl
  ·exact hg.1.symm
  ·exact hg.2.symm
 ·rw [List.getElem?_eq_none, List.getElem?_eq_none]
  ·rw [flatP_len, List.length_replicate]; omega
  ·rw [Array.length_toList, size_madeCells]; omega
theorem namesApart_of : ∀ {ws : List Wr}, (∀ (i j : Nat) a b, ws[i]? = some a → ws[j]? = some b → i < j → (a.n.toList == b.n.toList) = false) → namesApart ws
 | [], _ => trivial
 | w :: ws, h => by
  refine ⟨fun v hv => ?_, namesApart_of fun i j a b ha hb hij => h (i + 1) (j + 1) a b (by simpa using ha) (by simpa using hb) (by omega)⟩
  obtain ⟨j, hj⟩ := List.getElem?_of_mem hv
  exact h 0 (j + 1) w v rfl (by simpa using hj) (by omega)
theorem apart_names {ok : Wr → Bool} {ws : List Wr} (hA : apartW ok ws = true) : namesApart ws := namesApart_of fun i j a b ha hb hij => by
 have hap := (apart_at hA hb).2
 unfold namedW at hap
 rw [List.any_eq_false] at hap
 have := hap a (List.mem_of_getElem? (show (ws.take j)[i]? = some a by rw [List.getElem?_take, if_pos hij]; exact ha))
 simpa using this
theorem indexC_in : ∀ (ws : List Wr) (K : Int) (n : ByteArray) (r c k : Int), (∀ x ∈ ws, wareB x) → indexC ws K n r c = some k → K ≤ k ∧ k < K + countW ws
 | [], _, _, _, _, _, _, h => by cases h
 | w :: ws, K, n, r, c, k, hb, h => by
  obtain ⟨b1, b2, b3, b4⟩ := hb w (List.mem_cons_self ..)
  have hp := count_pos ws (fun x hx => hb x (List.mem_cons_of_mem _ hx))
  rw [indexC] at h
  show K ≤ k ∧ k < K + (w.x * w.y + countW ws)
  have hxy : 0 ≤ w.x * w.y := Int.mul_nonneg (by omega) (by omega)
  split at h
  ·rename_i hh
   obtain ⟨h1, h2, h3, h4⟩ := hasB_in hh
   have e := Option.some.inj h
   have m1 : 0 ≤ r * w.y := Int.mul_nonneg h1 (by omega)
   have m2 : (r + 1) * w.y ≤ w.x * w.y := Int.mul_le_mul_of_nonneg_right (by omega) (by omega)
   rw [Int.add_mul, Int.one_mul] at m2
   omega
  ·have ih := indexC_in ws _ n r c k (fun x hx => hb x (List.mem_cons_of_mem _ hx)) h
   omega
theorem count_le : ∀ ws : List Wr, (∀ x ∈ ws, wareB x) → countW ws ≤ 96 * ws.length
 | [], _ => by simp [countW]
 | w :: ws, h => by
  obtain ⟨b1, b2, b3, b4⟩ := h w (List.mem_cons_self ..)
  have := count_le ws (fun x hx => h x (List.mem_cons_of_mem _ hx))
  have m2 : w.x * w.y ≤ 8 * 12 := mul_le (by omega) b2 (by omega) b4
  show w.x * w.y + countW ws ≤ _
  rw [List.length_cons]
  omega
theorem right_fill {d : Dk} (h : rightD d = true) {i : Nat} {f : Fl} (hf : d.fs[i]? = some f) : (∃ k, indexC d.ws 0 f.n f.r f.c = some k ∧ 0 ≤ k ∧ k < countW d.ws) ∧ 0 ≤ f.v ∧ f.v ≤ 20000000 := by
 obtain ⟨_, _, pW, _⟩ := right_parts9 h
 have hF : fillsOk d.ws d.fs = true := by
  unfold rightD at h
  simp only [Bool.and_eq_true] at h
  exact h.2
 cases hx : (hasW d.ws f.n f.r f.c && inB f.v 0 20000000 && !filledW (d.fs.take i) f.n f.r f.c) with
 | false => rw [fl_no hf hx] at hF; cases hF
 | true =>
  simp only [Bool.and_eq_true, inB, decide_eq_true_eq] at hx
  refine ⟨?_, hx.1.2⟩
  have h1 := hx.1.1
  unfold hasW at h1
  rw [← indexC_eq d.ws 0 f.n f.r f.c (apart_names pW)] at h1
  obtain ⟨k, hk⟩ := Option.isSome_iff_exists.1 h1
  have := indexC_in d.ws 0 f.n f.r f.c k (wares_in pW) hk
  exact ⟨k, hk, this.1, by omega⟩
theorem tolW_at {ok : Wr → Bool} {ws : List Wr} (hA : apartW ok ws = true) {i : Nat} {r : Wr} (hr : ws[i]? = some r) : tolW ws r.n = r.z := by
 have h : ∀ (ws : List Wr), namesApart ws → r ∈ ws → ws.find? (fun x => x.n.toList == r.n.toList) = some r := fun ws => by
  induction ws with
  | nil => intro _ h; cases h
  | cons w ws ih =>
   intro hn hm
   cases e : (w.n.toList == r.n.toList) with
   | true =>
    rw [List.find?_cons]
    simp only [e]
    rcases List.mem_cons.1 hm with h1 | hm
    ·rw [h1]
    ·have := hn.1 r hm
     rw [e] at this
     cases this
   | false =>
    rw [List.find?_cons]
    simp only [e]
    rcases List.mem_cons.1 hm with h1 | hm
    ·rw [h1, beq_self_eq_true] at e
     cases e
    ·exact ih hn.2 hm
 unfold tolW
 rw [h ws (apart_names hA) (List.mem_of_getElem? hr)]
end Go.Proofs.YthlileddhgglnaaGreatDoor
namespace Go.Proofs.YthlileddhgglnaaGreatDoor
open Go.RowKit Go.Maps Go.WideMaps
set_option linter.unusedVariables false
theorem spanInfo : (Tryz.prog.info? 73).map (fun i => (i.zero, i.size, i.bytes)) = some (some (.agg #[.int .i64 0, .int .i64 0]), 2, 16) := by kernel_rfl
section
variable {P : Bp} {m9 : Nat} {E : List Ent} {X : List Th}
set_option maxRecDepth 100000 in
set_option maxHeartbeats 4000000 in
theorem dstart_any (w : World) (h : BoardM P w m9 E X) (hz : ∀ f ∈ P.d.fs, f.n.size ≤ maxLen ∧ I64 f.r ∧ I64 f.c) (hf9 : P.d.fs.length ≤ 1000000) :
  Calls Tryz.prog 19 #[.pointer (some ⟨P.b, 0, none⟩)] w fun e w' => ∃ g, e = .returned (.slice (some ⟨g, 0, none⟩) (startD P.d).length (startD P.d).length) ∧ w'.ownsRow w.heap.size 73 2 (.slice (some ⟨g, 0, none⟩) (startD P.d).length (startD P.d).length) (startD P.d).length (flatP (startD P.d)) ∧ B w w' := by
 obtain ⟨p8, p4, pW, pT⟩ := right_parts9 h.right
 have hwb := wares_in pW
 have hcn0 := count_pos P.d.ws hwb
 have hcn1 := count_le P.d.ws hwb
 have cC := wcount_any P.wv P.tv P.fv P.d w h.dk.now hwb (by omega)
 obtain ⟨i0, hi0, hz0, hz1, hz2⟩ := info_of spanInfo
 have hmade := made_spans (countW P.d.ws).toNat
 have hSD := startD_len P.d
 obtain ⟨nn, hnn⟩ : ∃ nn, (countW P.d.ws).toNat = nn := ⟨_, rfl⟩
 have hcI : countW P.d.ws = (nn : Int) := by omega
 rw [hcI] at cC
 rw [hnn] at hmade hSD
 rw [hSD]
 obtain ⟨ao, ac, bo, bc, co, cc, e1, e2, e3⟩ := h.dk.now.forms
 have oB := h.obj
 rw [e1, e2, e3] at oB cC
 have k0 := obj_cell oB 0
 have k1 := obj_cell oB 1
 have k2 := obj_cell oB 2
 have HB := Lib.hid h
 have HE := Lib.hid (And.intro e1 (And.intro e2 e3))
 obtain ⟨cn, hcn⟩ : ∃ cn, P.d.fs.length = cn := ⟨_, rfl⟩
 obtain ⟨an, han⟩ : ∃ an, P.d.ws.length = an := ⟨_, rfl⟩
 obtain ⟨bn, hbn⟩ : ∃ bn, P.d.ts.length = bn := ⟨_, rfl⟩
 rw [hcn] at k2 oB cC
 rw [han] at k0 oB cC
 rw [hbn] at k1 oB cC
 generalize hb9 : P.b = b at *
 clear h e1 e2 e3
 go_enter Tryz.func19, Tryz.ntmps19
 go_wp2_with fail
 refine cC.mono ?_
 rintro e w1 ⟨rfl, q1⟩
 have q1b := q1.b
 replace k0 := q1b.keep k0
 replace k1 := q1b.keep k1
 replace k2 := q1b.keep k2
 have hs1 := q1b.below.size
 clear cC oB
 have hb16 : i0.bytes * nn ≤ 281474976710656 := by rw [hz2]; omega
 have hbml : nn ≤ maxLen := by unfold maxLen; omega
 go_wp2_with (at_make; refine wpList_make_full _ rfl _ _ 61 rfl w1.heap.size 73 i0 _ 2 Tryz.underlying61 hi0 hz0 hz1 .i64 .i64 _ _ nn rfl rfl rfl rfl hb16 hbml (Nat.le_refl _) ?_; intro wm hrow hgrow; have hr2 : wm.ownsRow w1.heap.size 73 2 (.slice (some ⟨w1.heap.size, 0, none⟩) nn nn) nn (flatP (List.replicate nn (0, 0))) := (by rw [← hmade]; exact hrow); have qm := (B.refl w1).grownBy hgrow (fun _ h => by cases h); replace k0 := qm.keep k0; replace k1 := qm.keep k1; replace k2 := qm.keep k2; clear hgrow)
 generalize hgg : w1.heap.size = g at *
 obtain ⟨W, rfl⟩ : ∃ W : World, W = wm := ⟨_, rfl⟩
 have qW := q1b.trans qm
 have hS0 : W.ownsRow g 73 2 (.slice (some ⟨g, 0, none⟩) nn nn) nn (flatP (startF P.d.ws (List.replicate nn (0, 0)) (P.d.fs.take 0))) := hr2
 clear hrow hr2 q1 q1b qm hmade
 go_loopw [21] (fun iv wr => ∃ j : Nat, j ≤ cn ∧ iv = .int .i64 j ∧ wr.ownsRow g 73 2 (.slice (some ⟨g, 0, none⟩) nn nn) nn (flatP (startF P.d.ws (List.replicate nn (0, 0)) (P.d.fs.take j))) ∧ B w wr ∧ G (fun k => k = g) W wr) (fun iv _ => cn + 1 - (intOf iv).toNat)
 case atStart => exact ⟨0, Nat.zero_le _, rfl, hS0, qW, G.refl _ _⟩
 case round =>
  obtain ⟨j, hj, rfl, hrow, qr, gr⟩ := hrel
  obtain ⟨wl, rfl⟩ : ∃ wl : World, wl = wr := ⟨_, rfl⟩
  by_cases hl : j < cn
  ·have hlB : decide ((j : Int) < (cn : Int)) = true := decide_eq_true (by omega)
   have hlN : decide (j < cn) = true := decide_eq_true hl
   have hlI : (j : Int) < (cn : Int) := by omega
   have hi0 : (0 : Int) ≤ (j : Int) := by omega
   have wk1 : IntKind.i64.wrap ((j : Int) + 1) = (j : Int) + 1 := by rw [IntKind.wrap_i64]; omega
   have hB := HB.out.keepB qr
   have oB := hB.obj
   rw [HE.out.1, HE.out.2.1, HE.out.2.2] at oB
   rw [hcn, han, hbn, hb9] at oB
   have hfi : P.d.fs[j]? = some P.d.fs[j] := List.getElem?_eq_getElem (by omega)
   obtain ⟨a, cap, ha, _, _, hfa⟩ := hB.dk.now.fs.at_ (i := j) (by omega)
   rw [HE.out.2.2] at ha
   simp only [Value.slice.injEq, true_and] at ha
   obtain ⟨rfl, rfl⟩ := ha
   obtain ⟨⟨k, hk, hk0, hk1⟩, hv0, hv1⟩ := right_fill hB.right hfi
   obtain ⟨hzN, hzR, hzC⟩ := hz _ (List.mem_of_getElem? hfi)
   have htk := startF_take P.d.ws (List.replicate nn (0, 0)) hfi
   generalize P.d.fs[j] = f at *
   obtain ⟨N, R, C, V⟩ := f
   obtain ⟨f0, f1, f2, f3⟩ := hfa
   simp only at f0 f1 f2 f3 hk hv0 hv1 hzN hzR hzC
   have hnd := indexC_named P.d.ws 0 N R C (by rw [hk]; rfl)
   obtain ⟨iw, rc, xb, hiw, hrn, hxb, htd⟩ := named_at pW hnd P.bw hB.wl
   obtain ⟨x, hx, hxi, hxl⟩ := hB.xw iw rc hiw
   have hxbb : x.b = xb := by
    have e := congrArg (fun l => l[iw]?) hB.bX
    simp only [List.getElem?_map, hx] at e
    rw [List.getElem?_append_left (List.getElem?_eq_some_iff.1 hxb).1, hxb] at e
    exact Option.some.inj e
   obtain ⟨so, sm, sc, hox, _⟩ := (hB.things x (List.mem_of_getElem? hx)).obj
   have x0 : wl.cell? ⟨xb, 0, none⟩ = some (.int .i64 (iw : Int)) := by
    rw [← hxbb, obj_cell hox]
    unfold Th.cells
    rw [← hxi]
    split <;> rfl
   have hiwl := (List.getElem?_eq_some_iff.1 hiw).1
   obtain ⟨aw, cw, haw, _, _, hrec⟩ := hB.dk.now.ws.at_ hiwl
   have hrc2 : P.d.ws[iw] = rc := by rw [List.getElem?_eq_getElem hiwl] at hiw; exact Option.some.inj hiw
   rw [hrc2] at hrec
   rw [HE.out.1, han] at haw
   simp only [Value.slice.injEq, true_and] at haw
   obtain ⟨rfl, rfl⟩ := haw
   obtain ⟨TOL, hTOL⟩ : ∃ TOL, rc.z = TOL := ⟨_, rfl⟩
   have htol : tolW P.d.ws N = TOL := by rw [← hrn, ← hTOL]; exact tolW_at pW hiw
   have hrcok := (apart_at pW hiw).1
   have hT01 : 0 ≤ TOL ∧ TOL ≤ 1000000 := by
    unfold wareOk at hrcok
    simp only [Bool.and_eq_true, inB, decide_eq_true_eq] at hrcok
    rw [← hTOL]
    exact hrcok.1.2
   have tz := hrec.z
   rw [hTOL] at tz
   obtain ⟨kN, hkN⟩ : ∃ kN : Nat, k = (kN : Int) := ⟨k.toNat, by omega⟩
   have hslot : slotF P.d.ws ⟨N, R, C, V⟩ = kN := by unfold slotF; rw [hk, hkN]; simp
   have hspan : spanF P.d.ws ⟨N, R, C, V⟩ = (max (V - TOL) 0, V + TOL) := by unfold spanF; rw [htol]
   rw [hslot, hspan] at htk
   obtain ⟨MX, hMX⟩ : ∃ MX, max (V - TOL) 0 = MX := ⟨_, rfl⟩
   obtain ⟨PL, hPL⟩ : ∃ PL, V + TOL = PL := ⟨_, rfl⟩
   obtain ⟨MI, hMI⟩ : ∃ MI, V - TOL = MI := ⟨_, rfl⟩
   rw [hMX, hPL] at htk
   rw [hMI] at hMX
   have n1 : IntKind.i64.wrap (V - TOL) = MI := by rw [IntKind.wrap_i64]; omega
   have n2 : IntKind.i64.wrap (V + TOL) = PL := by rw [IntKind.wrap_i64]; omega
   have cI0 : ∀ w', B wl w' → Calls Tryz.prog 73 #[.agg #[P.wv, P.tv, P.fv], .agg #[.string N, .int .i64 R, .int .i64 C]] w' fun e w'' => e = .returned (.tuple #[.int .i64 ((indexC P.d.ws 0 N R C).getD 0), .bool (indexC P.d.ws 0 N R C).isSome]) ∧ B w' w'' := fun w' q => (windex_any P.wv P.tv P.fv P.d N R C hzR hzC w' (hB.dk.keepB q).now hwb (by omega)).mono fun _ _ h => ⟨h.1, h.2.b⟩
   rw [hk, HE.out.1, HE.out.2.1, HE.out.2.2, hcn, han, hbn] at cI0
   simp only [Option.isSome_some, Option.getD_some, hkN] at cI0
   have hiwI : (iw : Int) < (an : Int) := by omega
   have hiw0 : (0 : Int) ≤ (iw : Int) := by omega
   have hkI : (kN : Int) < (nn : Int) := by omega
   have hkI0 : (0 : Int) ≤ (kN : Int) := by omega
   have cL := fun (w : World) (hE : ThMap w P.mw (P.d.ws.map (·.n)) P.bw) => look_th hzN hE htd
   have HY := Lib.hid (And.intro hB (And.intro hrow (And.intro qr (And.intro gr (And.intro htk hl)))))
   have hTM := hB.wm
   have k4 := obj_cell oB 4
   replace k0 := obj_cell oB 0
   replace k1 := obj_cell oB 1
   replace k2 := obj_cell oB 2
   clear hB hrow qr gr htk hl hk hv0 hv1 hzR hzC hnd hiw hrn hxb htd hx hxi hxl hxbb hox hiwl hrc2 hrec htol hrcok hT01 hTOL hkN hslot hspan hPL hMI hfi hk0 hk1 oB hzN
   go_wp2_with fail
   have qx : B wl (wl.alloc (.cells #[.string N, .int .i64 R, .int .i64 C, .int .i64 V] 41)) := (B.refl _).alloc _ _
   have oF := obj_new wl (.cells #[.string N, .int .i64 R, .int .i64 C, .int .i64 V] 41)
   have cI1 := fun w' (q : B (wl.alloc (.cells #[.string N, .int .i64 R, .int .i64 C, .int .i64 V] 41)) w') => cI0 w' (qx.trans q)
   replace hTM := hTM.g (qx.g (fun _ => False)) (fun h => h)
   replace k0 := qx.keep k0
   replace k1 := qx.keep k1
   replace k2 := qx.keep k2
   replace k4 := qx.keep k4
   replace x0 := qx.keep x0
   replace tz := qx.keep tz
   clear cI0 f0 f1 f2 f3
   generalize (wl.alloc (.cells #[.string N, .int .i64 R, .int .i64 C, .int .i64 V] 41)) = w2 at *
   generalize hFb : wl.heap.size = Fb at *
   have cI := cI1
   have g0 := obj_cell oF 0
   have g1 := obj_cell oF 1
   have g2 := obj_cell oF 2
   have qd : B w2 w2.drew := (B.refl _).drew
   refine wp_region_noPanic ?_
   refine wp_region_seq (S := fun w' => w'.cell? ⟨b, 0, none⟩ = some (.slice (some aw) an ac) ∧ w'.cell? ⟨b, 1, none⟩ = some (.slice bo bn bc) ∧ w'.cell? ⟨b, 2, none⟩ = some (.slice (some a) cn cc) ∧ w'.cell? ⟨Fb, 0, none⟩ = some (.string N) ∧ w'.cell? ⟨Fb, 1, none⟩ = some (.int .i64 R) ∧ w'.cell? ⟨Fb, 2, none⟩ = some (.int .i64 C) ∧ B w2 w') [(0, 0), (1, 0), (2, 0), (3, 0), (4, 0), (5, 0), (6, 2), (7, 0), (8, 0), (9, 0), (10, 0), (11, 0)] [0, 1, 2, 4, 0, 16, 40, 64, 128, 128, 511, 2047] [0, 1, 2, 4, 0, 16, 40, 64, 128, 128, 256, 512] (by kernel_rfl) (by kernel_rfl) (fun _ _ _ _ _ h => h) ?_ (fun hH => ?_)
   ·exact ⟨qd.keep k0, qd.keep k1, qd.keep k2, qd.keep g0, qd.keep g1, qd.keep g2, qd⟩
   refine wpSeq_take (d := 26) rfl rfl (by kernel_rfl) (fun w hS => by go_simp <;> with_reducible rfl) ?_
   dsimp only [sZ, sS]
   refine wpSeq_take (d := 27) rfl rfl (by kernel_rfl) (fun w hS => by go_simp <;> with_reducible rfl) ?_
   dsimp only [sZ, sS]
   refine wpSeq_take (d := 28) rfl rfl (by kernel_rfl) (fun w hS => by go_simp <;> with_reducible rfl) ?_
   dsimp only [sZ, sS]
   refine wpSeq_take (d := 29) rfl rfl (by kernel_rfl) (fun w hS => by go_simp <;> with_reducible rfl) ?_
   dsimp only [sZ, sS]
   refine wpSeq_take (d := 30) rfl rfl (by kernel_rfl) (fun w hS => by go_simp <;> with_reducible rfl) ?_
   dsimp only [sZ, sS]
   refine wpSeq_take (d := 31) rfl rfl (by kernel_rfl) (fun w hS => by go_simp <;> with_reducible rfl) ?_
   dsimp only [sZ, sS]
   refine wpSeq_call rfl (by kernel_rfl) (fun K hK => ?_)
   go_simp
   (with_reducible refine (cI _ hH.2.2.2.2.2.2).mono ?_)
   rintro e w' ⟨rfl, hq⟩
   refine hK.out _ _ ?_ (fun hH => ?_)
   ·exact ⟨hq.keep (hH.1), hq.keep (hH.2.1), hq.keep (hH.2.2.1), hq.keep (hH.2.2.2.1), hq.keep (hH.2.2.2.2.1), hq.keep (hH.2.2.2.2.2.1), (hH.2.2.2.2.2.2).trans hq⟩
   clear hK
   refine wpSeq_take (d := 25) rfl rfl (by kernel_rfl) (fun w hS => by go_simp <;> with_reducible rfl) ?_
   dsimp only [sZ, sS]
   refine wpSeq_take (d := 33) rfl rfl (by kernel_rfl) (fun w hS => by go_simp <;> with_reducible rfl) ?_
   dsimp only [sZ, sS]
   refine wpSeq_take (d := 34) rfl rfl (by kernel_rfl) (fun w hS => by go_simp <;> with_reducible rfl) ?_
   dsimp only [sZ, sS]
   refine wpSeq_take (d := 6) rfl rfl (by kernel_rfl) (fun w hS => by go_simp <;> with_reducible rfl) ?_
   dsimp only [sZ, sS]
   refine wpSeq_take (d := 7) rfl rfl (by kernel_rfl) (fun w hS => by go_simp <;> with_reducible rfl) ?_
   dsimp only [sZ, sS]
   refine wpSeq_done ?_
   refine NoPanic.normal ?_
   obtain ⟨w3, rfl⟩ : ∃ w3 : World, w3 = w' := ⟨_, rfl⟩
   have hB2 : B w2 w3 := hH.2.2.2.2.2.2
   replace k0 := hB2.keep k0
   replace k4 := hB2.keep k4
   replace g0 := hB2.keep g0
   replace x0 := hB2.keep x0
   replace tz := hB2.keep tz
   replace hTM := hTM.g (hB2.g (fun _ => False)) (fun h => h)
   have g3 := obj_cell (hB2.obj oF) 3
   have qd6 : B w3 w3.drew := (B.refl _).drew
   clear hH cI cI1 k1 k2 g1 g2 qd
   go_wp2_with fail
   refine wp_region_noPanic ?_
   refine wp_region_seq (S := fun w' => w'.cell? ⟨b, 0, none⟩ = some (.slice (some aw) an ac) ∧ w'.cell? ⟨b, 4, none⟩ = some (.map (some P.mw)) ∧ w'.cell? ⟨Fb, 0, none⟩ = some (.string N) ∧ ThMap w' P.mw (P.d.ws.map (·.n)) P.bw ∧ w'.cell? ⟨xb, 0, none⟩ = some (.int .i64 (iw : Int)) ∧ w'.cell? ⟨(aw.add (iw * 5)).block, (aw.add (iw * 5)).off + 3, none⟩ = some (.int .i64 TOL)) [(0, 0), (1, 0), (2, 0), (3, 0), (4, 0), (5, 0), (6, 0), (7, 0), (8, 0), (9, 0), (10, 0), (11, 0), (12, 0), (13, 0), (14, 0), (15, 0), (16, 0), (17, 0), (18, 0), (19, 0)] [0, 1, 2, 4, 8, 0, 32, 64, 128, 0, 512, 1024, 2304, 4096, 8192, 16384, 32784, 65536, 131072, 524287] [0, 1, 2, 4, 8, 0, 32, 64, 128, 0, 512, 1024, 2304, 4096, 8192, 16384, 32784, 65536, 131072, 262144] (by kernel_rfl) (by kernel_rfl) (fun _ _ _ _ _ h => h) ?_ (fun hH => ?_)
   ·exact ⟨qd6.keep k0, qd6.keep k4, qd6.keep g0, hTM.same rfl, qd6.keep x0, qd6.keep tz⟩
   refine wpSeq_take (d := 35) rfl rfl (by kernel_rfl) (fun w hS => by go_simp <;> with_reducible rfl) ?_
   dsimp only [sZ, sS]
   refine wpSeq_take (d := 36) rfl rfl (by kernel_rfl) (fun w hS => by go_simp <;> with_reducible rfl) ?_
   dsimp only [sZ, sS]
   refine wpSeq_take (d := 37) rfl rfl (by kernel_rfl) (fun w hS => by go_simp <;> with_reducible rfl) ?_
   dsimp only [sZ, sS]
   refine wpSeq_take (d := 38) rfl rfl (by kernel_rfl) (fun w hS => by go_simp <;> with_reducible rfl) ?_
   dsimp only [sZ, sS]
   refine wpSeq_take (d := 39) rfl rfl (by kernel_rfl) (fun w hS => by go_simp <;> with_reducible rfl) ?_
   dsimp only [sZ, sS]
   refine wpSeq_take (d := 40) rfl rfl (by kernel_rfl) (fun w hS => by go_simp <;> with_reducible rfl) ?_
   dsimp only [sZ, sS]
   refine wpSeq_take (d := 41) rfl rfl (by kernel_rfl) (fun w hS => by go_simp <;> with_reducible rfl) ?_
   dsimp only [sZ, sS]
   refine wpSeq_take (d := 42) rfl rfl (by kernel_rfl) (fun w hS => by go_simp <;> with_reducible rfl) ?_
   dsimp only [sZ, sS]
   refine wpSeq_take (d := 43) rfl rfl (by kernel_rfl) (fun w hS => by go_simp <;> with_reducible rfl) ?_
   dsimp only [sZ, sS]
   refine wpSeq_take (d := 44) rfl rfl (by kernel_rfl) (fun w hS => by go_simp <;> with_reducible rfl) ?_
   dsimp only [sZ, sS]
   refine wpSeq_take (d := 45) rfl rfl (by kernel_rfl) (fun w hS => by go_simp <;> with_reducible rfl) ?_
   dsimp only [sZ, sS]
   refine wpSeq_take (d := 46) rfl rfl (by kernel_rfl) (fun w hS => by go_simp <;> with_reducible rfl) ?_
   dsimp only [sZ, sS]
   refine wpSeq_take (d := 47) (v := .pointer (some ⟨xb, 0, none⟩)) rfl rfl (by kernel_rfl) (fun w hS => ?_) ?_
   ·have e := cL w hS.2.2.2.1; go_simp
   dsimp only [sZ, sS]
   refine wpSeq_take (d := 48) rfl rfl (by kernel_rfl) (fun w hS => by go_simp <;> with_reducible rfl) ?_
   dsimp only [sZ, sS]
   refine wpSeq_take (d := 49) rfl rfl (by kernel_rfl) (fun w hS => by go_simp <;> with_reducible rfl) ?_
   dsimp only [sZ, sS]
   refine wpSeq_take (d := 50) rfl rfl (by kernel_rfl) (fun w hS => by go_simp <;> with_reducible rfl) ?_
   dsimp only [sZ, sS]
   refine wpSeq_take (d := 51) rfl rfl (by kernel_rfl) (fun w hS => by go_simp <;> with_reducible rfl) ?_
   dsimp only [sZ, sS]
   refine wpSeq_take (d := 52) rfl rfl (by kernel_rfl) (fun w hS => by go_simp <;> with_reducible rfl) ?_
   dsimp only [sZ, sS]
   refine wpSeq_take (d := 53) rfl rfl (by kernel_rfl) (fun w hS => by go_simp <;> with_reducible rfl) ?_
   dsimp only [sZ, sS]
   refine wpSeq_take (d := 8) rfl rfl (by kernel_rfl) (fun w hS => by go_simp <;> with_reducible rfl) ?_
   dsimp only [sZ, sS]
   refine wpSeq_done ?_
   refine NoPanic.normal ?_
   obtain ⟨hB, hrow, qr, gr, htk, hl⟩ := HY.out
   have hrow3 := own_keepBx hrow (qx.trans hB2)
   have y0 := hrow3.cellAt (kN * 2) (by omega)
   have y1 := hrow3.cellAt (kN * 2 + 1) (by omega)
   have z0 := hrow3.frozenAt (kN * 2)
   have z1 := hrow3.frozenAt (kN * 2 + 1)
   have hSl : (startF P.d.ws (List.replicate nn (0, 0)) (P.d.fs.take j)).length = nn := by rw [startF_len, List.length_replicate]
   obtain ⟨s0, hs0⟩ : ∃ s, (startF P.d.ws (List.replicate nn (0, 0)) (P.d.fs.take j))[kN]? = some s := ⟨_, List.getElem?_eq_getElem (by omega)⟩
   obtain ⟨p0, p1⟩ := flatP_get _ _ _ hs0
   rw [p0] at y0
   rw [p1] at y1
   obtain ⟨r1, e1⟩ := hrow3.stored (kN * 2) (.int .i64 MX)
   obtain ⟨r2, e2⟩ := r1.stored (kN * 2 + 1) (.int .i64 PL)
   rw [flatP_set _ _ _ _ (by omega), ← htk] at r2
   have q9 : B w ((w3.setCell ⟨g, kN * 2, none⟩ (.int .i64 MX)).setCell ⟨g, kN * 2 + 1, none⟩ (.int .i64 PL)).drew := (B.setCell (p := ⟨g, kN * 2 + 1, none⟩) (B.setCell (p := ⟨g, kN * 2, none⟩) (qr.trans (qx.trans hB2)) hs1 _) hs1 _).drew
   have g9 : G (fun k => k = g) W ((w3.setCell ⟨g, kN * 2, none⟩ (.int .i64 MX)).setCell ⟨g, kN * 2 + 1, none⟩ (.int .i64 PL)).drew := (G.setCell (S := fun k => k = g) (p := ⟨g, kN * 2 + 1, none⟩) (G.setCell (S := fun k => k = g) (p := ⟨g, kN * 2, none⟩) (gr.trans ((qx.trans hB2).g _)) (.inl rfl) _) (.inl rfl) _).drew
   replace r2 := own_keepBx r2 ((B.refl _).drew)
   have HZ := Lib.hid (And.intro r2 (And.intro q9 (And.intro g9 hl)))
   clear r1 r2 e1 e2 q9 g9 hB hrow qr gr htk hl hrow3 hs0 p0 p1 hTM x0 tz k0 k4 cL HY hH hSl
   go_wp2
   go_roundw
   case rel => exact ⟨j + 1, by have := HZ.out.2.2.2; omega, by go_num, HZ.out.1, HZ.out.2.1, HZ.out.2.2.1⟩
   case measure => have := HZ.out.2.2.2; simp [intOf]; omega
  ·have hlB : decide ((j : Int) < (cn : Int)) = false := decide_eq_false (by omega)
   have hlN : decide (j < cn) = false := decide_eq_false hl
   obtain rfl : j = cn := by omega
   rw [List.take_of_length_le (by omega)] at hrow
   have HZ := Lib.hid (And.intro hrow qr)
   clear hrow qr gr
   go_wp2
   go_ret
   have hst : startF P.d.ws (List.replicate nn (0, 0)) P.d.fs = startD P.d := by unfold startD; rw [hnn]
   exact ⟨g, rfl, by rw [← hst]; exact own_low HZ.out.1 hs1, HZ.out.2⟩
end
end Go.Proofs.YthlileddhgglnaaGreatDoor
namespace Go.Proofs.YthlileddhgglnaaGreatDoor
open Go.RowKit
theorem obj_five {w : World} {b : Nat} {a0 a1 a2 a3 a4 : Value} {t : TypeId} (h : w.heap[b]? = some (.cells #[a0, a1, a2, a3, a4] t (0, 0))) (x0 x1 x2 x3 x4 : Value) :
  (((((w.setCell ⟨b, 0, none⟩ x0).setCell ⟨b, 1, none⟩ x1).setCell ⟨b, 2, none⟩ x2).setCell ⟨b, 3, none⟩ x3).setCell ⟨b, 4, none⟩ x4).heap[b]? = some (.cells #[x0, x1, x2, x3, x4] t (0, 0)) := by
 have := obj_set (obj_set (obj_set (obj_set (obj_set h 0 x0) 1 x1) 2 x2) 3 x3) 4 x4
 simpa using this
end Go.Proofs.YthlileddhgglnaaGreatDoor
