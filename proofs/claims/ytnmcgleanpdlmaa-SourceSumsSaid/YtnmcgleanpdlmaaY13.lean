/-
  The statements' decks are right ones; each number has its well, each well its number; Wells and numbers. No program is named here but in the contracts' names; Layer 11: what may be in wells at first; Layer 14: what is in wells behind transfers, how many strokes touch them. No program is named here; Layer 11: New: the board of a deck that may be; none of another one.
-/
import Derived.Laws.Strings2
import Derived.Laws.Slices
import Derived.KernelRfl
import Derived.Test.YtnmcgleanpdlmaaY1
import Derived.Test.YtnmcgleanpdlmaaY2
import Derived.Test.YtnmcgleanpdlmaaY3
import Derived.Test.YtnmcgleanpdlmaaY4
import Derived.Test.YtnmcgleanpdlmaaY5
import Derived.Test.YtnmcgleanpdlmaaY6
import Derived.Test.YtnmcgleanpdlmaaY7
import Derived.Test.YtnmcgleanpdlmaaY8
import Derived.Test.YtnmcgleanpdlmaaY9
import Derived.Test.YtnmcgleanpdlmaaY10
import Derived.Test.YtnmcgleanpdlmaaY11
import Derived.Test.YtnmcgleanpdlmaaY12
namespace Go.Proofs.Ytnmcgleanpdlmaa
open Go.RowKit
set_option linter.unusedVariables false
theorem at_name : ∀ (ws : List Wr) (k : Int) (n : ByteArray) (r c : Int), atW ws k = some (n, r, c) → ∃ v ∈ ws, v.n = n
  | [], k, n, r, c, h => by cases h
  | w :: ws, k, n, r, c, h => by
    rw [atW] at h
    by_cases h0 : k < 0
    · rw [if_pos h0] at h; cases h
    · rw [if_neg h0] at h
      by_cases h1 : k < w.x * w.y
      · rw [if_pos h1] at h
        simp only [Option.some.injEq, Prod.mk.injEq] at h
        exact ⟨w, List.mem_cons_self .., h.1⟩
      · rw [if_neg h1] at h
        obtain ⟨v, hv, e⟩ := at_name ws _ n r c h
        exact ⟨v, List.mem_cons_of_mem _ hv, e⟩
/-- No two wares bear one name. -/
def namesApart : List Wr → Prop
  | [] => True
  | w :: ws => (∀ v ∈ ws, (w.n.toList == v.n.toList) = false) ∧ namesApart ws
theorem at_index : ∀ (ws : List Wr) (K k : Int) (n : ByteArray) (r c : Int), (∀ x ∈ ws, wareB x) → namesApart ws → atW ws k = some (n, r, c) → indexW ws K n r c = some (K + k)
  | [], K, k, n, r, c, _, _, h => by cases h
  | w :: ws, K, k, n, r, c, hb, ha, h => by
    obtain ⟨b1, b2, b3, b4⟩ := hb w (List.mem_cons_self ..)
    rw [atW] at h
    by_cases h0 : k < 0
    · rw [if_pos h0] at h; cases h
    · rw [if_neg h0] at h
      by_cases h1 : k < w.x * w.y
      · rw [if_pos h1] at h
        simp only [Option.some.injEq, Prod.mk.injEq] at h
        obtain ⟨rfl, rfl, rfl⟩ := h
        have e1 := Int.emod_nonneg k (by omega : w.y ≠ 0)
        have e2 := Int.emod_lt_of_pos k (by omega : 0 < w.y)
        have e3 := Int.ediv_nonneg (by omega : 0 ≤ k) (by omega : 0 ≤ w.y)
        have e4 : k / w.y < w.x := Int.ediv_lt_of_lt_mul (by omega) (by rw [Int.mul_comm] at h1; rw [Int.mul_comm]; exact h1)
        have e5 := Int.mul_ediv_add_emod k w.y
        rw [indexW, if_pos (by simp), if_pos ⟨e3, e4, e1, e2⟩]
        congr 1
        rw [Int.mul_comm (k / w.y) w.y]
        omega
      · rw [if_neg h1] at h
        obtain ⟨v, hv, e⟩ := at_name ws _ n r c h
        have hne := ha.1 v hv
        rw [e] at hne
        rw [indexW, if_neg (by rw [hne]; decide)]
        have := at_index ws (K + w.x * w.y) (k - w.x * w.y) n r c (fun x hx => hb x (List.mem_cons_of_mem _ hx)) ha.2 h
        rw [this]
        congr 1
        omega
theorem fills_mem (ws : List Wr) : ∀ (l : List Nat) (i : Nat) (f : Fl), f ∈ fillsF ws i l → ∃ k : Nat, i ≤ k ∧ atW ws (k : Int) = some (f.n, f.r, f.c) ∧ 60000 ≤ f.v ∧ f.v < 260000
  | [], i, f, h => by simp [fillsF] at h
  | x :: l, i, f, h => by
    have up : ∀ f, f ∈ fillsF ws (i + 1) l → ∃ k : Nat, i ≤ k ∧ atW ws (k : Int) = some (f.n, f.r, f.c) ∧ 60000 ≤ f.v ∧ f.v < 260000 := fun f hf => by
      obtain ⟨k, h1, h2⟩ := fills_mem ws l (i + 1) f hf
      exact ⟨k, by omega, h2⟩
    unfold fillsF at h
    cases hat : atW ws (i : Int) with
    | none => rw [hat] at h; exact up f h
    | some p =>
      obtain ⟨n, r, c⟩ := p
      rw [hat] at h
      dsimp only at h
      by_cases hx : 0 < x % 6
      · rw [if_pos hx] at h
        rcases List.mem_cons.1 h with rfl | h
        · exact ⟨i, Nat.le_refl _, hat, by simp only; omega, by simp only; omega⟩
        · exact up f h
      · rw [if_neg hx] at h
        exact up f h
theorem index_same : ∀ (ws : List Wr) (K : Int) (n m : ByteArray) (r c : Int), n.toList = m.toList → indexW ws K n r c = indexW ws K m r c
  | [], _, _, _, _, _, _ => rfl
  | w :: ws, K, n, m, r, c, h => by rw [indexW, indexW, h, index_same ws _ n m r c h]
theorem fills_apart (ws : List Wr) (hb : ∀ x ∈ ws, wareB x) (ha : namesApart ws) : ∀ (l : List Nat) (i : Nat), (∀ j f, (fillsF ws i l)[j]? = some f → filledW ((fillsF ws i l).take j) f.n f.r f.c = false)
  | [], i => fun j f h => by simp [fillsF] at h
  | x :: l, i => by
    have ih := fills_apart ws hb ha l (i + 1)
    have hm := fills_mem ws l (i + 1)
    unfold fillsF
    cases hat : atW ws (i : Int) with
    | none => exact ih
    | some p =>
      obtain ⟨n, r, c⟩ := p
      dsimp only
      by_cases hx : 0 < x % 6
      · rw [if_pos hx]
        intro j f hj
        cases j with
        | zero => rfl
        | succ j =>
          have hj' : (fillsF ws (i + 1) l)[j]? = some f := by simpa using hj
          have h1 := ih j f hj'
          obtain ⟨k, hk, hak, _⟩ := hm f (List.mem_of_getElem? hj')
          rw [List.take_succ_cons]
          unfold filledW at h1 ⊢
          rw [List.any_cons, h1, Bool.or_false]
          cases hh : ((n.toList == f.n.toList) && decide (r = f.r) && decide (c = f.c))
          · rfl
          · exfalso
            simp only [Bool.and_eq_true, decide_eq_true_eq, beq_iff_eq] at hh
            obtain ⟨⟨e1, rfl⟩, rfl⟩ := hh
            have i1 := at_index ws 0 _ _ _ _ hb ha hat
            have i2 := at_index ws 0 _ _ _ _ hb ha hak
            rw [index_same ws 0 n f.n _ _ e1] at i1
            rw [i1] at i2
            simp only [Option.some.injEq] at i2
            omega
      · rw [if_neg hx]
        exact ih
theorem seat_names (a b c d : Int) : namesApart (wares7 a b c d) := by
  unfold wares7 namesApart namesApart namesApart
  refine ⟨fun v hv => ?_, fun v hv => by simp at hv, trivial⟩
  rcases List.mem_singleton.1 hv with rfl
  unfold namePlate nameTube
  rw [toList_data, toList_data]
  rfl
theorem seat_wares {a b c d : Int} (ha : 0 ≤ a ∧ a ≤ 255) (hb : 0 ≤ b ∧ b ≤ 255) (hc : 0 ≤ c ∧ c ≤ 255) (hd : 0 ≤ d ∧ d ≤ 255) : ∀ x ∈ wares7 a b c d, wareB x := by
  intro x hx
  unfold wares7 at hx
  simp only [List.mem_cons, List.not_mem_nil, or_false] at hx
  rcases hx with rfl | rfl
  · unfold wareB; simp only; omega
  · unfold wareB; simp only; omega
theorem nameS_plate : nameS namePlate = true := by kernel_rfl
theorem nameS_tube : nameS nameTube = true := by kernel_rfl
theorem nameS_t1 : nameS nameT1 = true := by kernel_rfl
theorem nameS_t2 : nameS nameT2 = true := by kernel_rfl
/-- The statements' decks may be. -/
theorem seat_right {a b c d : Int} (ha : 0 ≤ a ∧ a ≤ 255) (hb : 0 ≤ b ∧ b ≤ 255) (hc : 0 ≤ c ∧ c ≤ 255) (hd : 0 ≤ d ∧ d ≤ 255) (l : List Nat) : rightD (seatD a b c d l) = true := by
  have hw := seat_wares ha hb hc hd
  have hn := seat_names a b c d
  have hf : fillsOk (wares7 a b c d) (fillsF (wares7 a b c d) 0 l) = true := by
    unfold fillsOk
    rw [List.all_eq_true]
    intro i hi
    have hlt := List.mem_range.1 hi
    have hF := List.getElem?_eq_getElem hlt
    rw [hF]
    generalize (fillsF (wares7 a b c d) 0 l)[i] = f at hF
    obtain ⟨k, _, hk, v1, v2⟩ := fills_mem _ l 0 f (List.mem_of_getElem? hF)
    have hi2 := at_index _ 0 _ _ _ _ hw hn hk
    have hap := fills_apart _ hw hn l 0 i f hF
    simp only [Bool.and_eq_true, inB_iff, Bool.not_eq_true']
    refine ⟨⟨?_, by omega, by omega⟩, hap⟩
    unfold hasW
    rw [hi2]
    rfl
  unfold rightD seatD
  simp only [Bool.and_eq_true, decide_eq_true_eq]
  refine ⟨⟨⟨⟨by unfold wares7; simp, ?_⟩, ?_⟩, ?_⟩, hf⟩
  · unfold tips7; split <;> simp
  · rw [apartW_iff]
    intro i w hw'
    unfold wares7 at hw' ⊢
    match i with
    | 0 =>
      obtain rfl : _ = w := by simpa using hw'
      refine ⟨?_, rfl⟩
      unfold wareOk
      simp only [nameS_plate, shape_right, Bool.and_true, Bool.true_and, Bool.and_eq_true, inB_iff]
      omega
    | 1 =>
      obtain rfl : _ = w := by simpa using hw'
      refine ⟨?_, ?_⟩
      · unfold wareOk
        simp only [nameS_tube, shape_right, Bool.and_true, Bool.true_and, Bool.and_eq_true, inB_iff]
        omega
      · unfold namedW namePlate nameTube
        simp only [List.take_succ_cons, List.take_zero, List.any_cons, List.any_nil, Bool.or_false]
        rw [toList_data, toList_data]
        rfl
    | n + 2 => simp at hw'
  · rw [apartW_iff]
    intro i w hw'
    have ok1 : tipOk ⟨nameT1, cap7 c, filt7 d, err7 d, outerOf (c % 3).toNat⟩ = true := by
      unfold tipOk
      simp only [nameS_t1, outer_right, Bool.and_true, Bool.true_and, Bool.and_eq_true, inB_iff]
      unfold cap7 filt7 err7
      refine ⟨⟨?_, ?_⟩, ?_⟩ <;> (repeat' split) <;> omega
    have ok2 : tipOk ⟨nameT2, 50000, 40000, d % 30, outerOf (d % 3).toNat⟩ = true := by
      unfold tipOk
      simp only [nameS_t2, outer_right, Bool.and_true, Bool.true_and, Bool.and_eq_true, inB_iff]
      omega
    unfold tips7 at hw' ⊢
    match i with
    | 0 =>
      obtain rfl : _ = w := by simpa using hw'
      exact ⟨ok1, rfl⟩
    | 1 =>
      by_cases h5 : d % 5 = 0
      · rw [if_pos h5] at hw'; simp at hw'
      · rw [if_neg h5] at hw' ⊢
        obtain rfl : _ = w := by simpa using hw'
        refine ⟨ok2, ?_⟩
        unfold namedW nameT1 nameT2
        simp only [List.take_succ_cons, List.take_zero, List.any_cons, List.any_nil, Bool.or_false]
        rw [toList_data, toList_data]
        rfl
    | n + 2 =>
      by_cases h5 : d % 5 = 0
      · rw [if_pos h5] at hw'; simp at hw'
      · rw [if_neg h5] at hw'; simp at hw'
end Go.Proofs.Ytnmcgleanpdlmaa

namespace Go.Proofs.Ytnmcgleanpdlmaa
open Go.RowKit
set_option linter.unusedVariables false
theorem count_pos : ∀ ws : List Wr, (∀ x ∈ ws, wareB x) → 0 ≤ countW ws
  | [], _ => by decide
  | w :: ws, h => by
    obtain ⟨b1, b2, b3, b4⟩ := h w (List.mem_cons_self ..)
    have := count_pos ws (fun x hx => h x (List.mem_cons_of_mem _ hx))
    have := Int.mul_nonneg (by omega : 0 ≤ w.x) (by omega : 0 ≤ w.y)
    show 0 ≤ w.x * w.y + countW ws
    omega
theorem at_is : ∀ (ws : List Wr) (k : Int), (∀ x ∈ ws, wareB x) → (atW ws k).isSome = (decide (0 ≤ k) && decide (k < countW ws))
  | [], k, _ => by
    show false = _
    by_cases h : 0 ≤ k
    · rw [decide_eq_false (show ¬ k < countW [] by show ¬ k < 0; omega), Bool.and_false]
    · rw [decide_eq_false h, Bool.false_and]
  | w :: ws, k, h => by
    obtain ⟨b1, b2, b3, b4⟩ := h w (List.mem_cons_self ..)
    have hp := count_pos ws (fun x hx => h x (List.mem_cons_of_mem _ hx))
    have ih := at_is ws (k - w.x * w.y) (fun x hx => h x (List.mem_cons_of_mem _ hx))
    have hc : countW (w :: ws) = w.x * w.y + countW ws := rfl
    rw [atW, hc]
    have hm := Int.mul_nonneg (by omega : 0 ≤ w.x) (by omega : 0 ≤ w.y)
    generalize w.x * w.y = P at *
    by_cases h0 : k < 0
    · rw [if_pos h0, decide_eq_false (show ¬ 0 ≤ k by omega), Bool.false_and]
      rfl
    · rw [if_neg h0, decide_eq_true (show 0 ≤ k by omega), Bool.true_and]
      by_cases h1 : k < P
      · rw [if_pos h1, decide_eq_true (show k < P + countW ws by omega)]
        rfl
      · rw [if_neg h1, ih, decide_eq_true (show 0 ≤ k - P by omega), Bool.true_and]
        by_cases h2 : k - P < countW ws
        · rw [decide_eq_true h2, decide_eq_true (by omega)]
        · rw [decide_eq_false h2, decide_eq_false (by omega)]
theorem at_range : ∀ (ws : List Wr) (k : Int) (n : ByteArray) (r c : Int), (∀ x ∈ ws, wareB x) → atW ws k = some (n, r, c) → 0 ≤ r ∧ r < 8 ∧ 0 ≤ c ∧ c < 12
  | [], k, n, r, c, _, h => by cases h
  | w :: ws, k, n, r, c, hb, h => by
    obtain ⟨b1, b2, b3, b4⟩ := hb w (List.mem_cons_self ..)
    rw [atW] at h
    by_cases h0 : k < 0
    · rw [if_pos h0] at h; cases h
    · rw [if_neg h0] at h
      by_cases h1 : k < w.x * w.y
      · rw [if_pos h1] at h
        simp only [Option.some.injEq, Prod.mk.injEq] at h
        obtain ⟨rfl, rfl, rfl⟩ := h
        have e1 := Int.emod_nonneg k (by omega : w.y ≠ 0)
        have e2 := Int.emod_lt_of_pos k (by omega : 0 < w.y)
        have e3 := Int.ediv_nonneg (by omega : 0 ≤ k) (by omega : 0 ≤ w.y)
        have e4 : k / w.y < w.x := Int.ediv_lt_of_lt_mul (by omega) (by rw [Int.mul_comm] at h1; rw [Int.mul_comm]; exact h1)
        omega
      · rw [if_neg h1] at h
        exact at_range ws _ n r c (fun x hx => hb x (List.mem_cons_of_mem _ hx)) h
theorem indexC_none : ∀ (ws : List Wr) (K : Int) (n : ByteArray) (r c : Int), (∀ v ∈ ws, (v.n.toList == n.toList) = false) → indexC ws K n r c = none
  | [], K, n, r, c, _ => rfl
  | w :: ws, K, n, r, c, h => by
    have hw := h w (List.mem_cons_self ..)
    have hb : hasB w.n w.x w.y n r c = false := by unfold hasB; rw [hw]; rfl
    rw [indexC, hb, if_neg (by decide)]
    exact indexC_none ws _ n r c (fun v hv => h v (List.mem_cons_of_mem _ hv))
/-- Where no two wares bear one name the code looks as the document does. -/
theorem indexC_eq : ∀ (ws : List Wr) (K : Int) (n : ByteArray) (r c : Int), namesApart ws → indexC ws K n r c = indexW ws K n r c
  | [], K, n, r, c, _ => rfl
  | w :: ws, K, n, r, c, h => by
    rw [indexC, indexW]
    cases hn : (w.n.toList == n.toList)
    · have hb : hasB w.n w.x w.y n r c = false := by unfold hasB; rw [hn]; rfl
      rw [hb, if_neg (by decide), if_neg (by decide)]
      exact indexC_eq ws _ n r c h.2
    · rw [if_pos rfl]
      by_cases hr : 0 ≤ r ∧ r < w.x ∧ 0 ≤ c ∧ c < w.y
      · have hb : hasB w.n w.x w.y n r c = true := by
          unfold hasB
          rw [hn, decide_eq_true hr.1, decide_eq_true hr.2.1, decide_eq_true hr.2.2.1, decide_eq_true hr.2.2.2]; rfl
        rw [hb, if_pos rfl, if_pos hr]
      · have hb : hasB w.n w.x w.y n r c = false := by
          cases e : hasB w.n w.x w.y n r c
          · rfl
          · have := hasB_in e; exact absurd this hr
        rw [hb, if_neg (by decide), if_neg hr]
        refine indexC_none ws _ n r c (fun v hv => ?_)
        have h1 := h.1 v hv
        rw [beq_iff_eq] at hn
        rw [hn] at h1
        cases e : (v.n.toList == n.toList)
        · rfl
        · rw [beq_iff_eq] at e
          rw [e, beq_self_eq_true] at h1
          cases h1
theorem seat_count {a b c d : Int} (ha : 0 ≤ a ∧ a ≤ 255) (hb : 0 ≤ b ∧ b ≤ 255) (hc : 0 ≤ c ∧ c ≤ 255) (hd : 0 ≤ d ∧ d ≤ 255) : 0 ≤ countW (wares7 a b c d) ∧ countW (wares7 a b c d) ≤ 192 := by
  have hw := seat_wares ha hb hc hd
  refine ⟨count_pos _ hw, ?_⟩
  obtain ⟨p1, p2, p3, p4⟩ := hw _ (List.mem_cons_self ..)
  obtain ⟨t1, t2, t3, t4⟩ := hw _ (List.mem_cons_of_mem _ (List.mem_cons_self ..))
  have m1 := mul_small (by omega) p2 (by omega) p4
  have m2 := mul_small (by omega) t2 (by omega) t4
  show _ * _ + (_ * _ + 0) ≤ 192
  omega
end Go.Proofs.Ytnmcgleanpdlmaa

namespace Go.Proofs.Ytnmcgleanpdlmaa
open Go.RowKit
set_option linter.unusedVariables false
theorem ba_eq {a b : ByteArray} (h : a.toList = b.toList) : a = b := by
  rw [Go.Lib.toList_data, Go.Lib.toList_data] at h
  exact ByteArray.ext (Array.toList_inj.1 h)
/-- Names that are apart. -/
theorem namesApart_of : ∀ {ws : List Wr}, (∀ (i j : Nat) a b, ws[i]? = some a → ws[j]? = some b → i < j → (a.n.toList == b.n.toList) = false) → namesApart ws
  | [], _ => trivial
  | w :: ws, h => by
    refine ⟨fun v hv => ?_, namesApart_of fun i j a b ha hb hij => h (i + 1) (j + 1) a b (by simpa using ha) (by simpa using hb) (by omega)⟩
    obtain ⟨j, hj⟩ := List.getElem?_of_mem hv
    exact h 0 (j + 1) w v rfl (by simpa using hj) (by omega)
theorem apart_names {ok : Wr → Bool} {ws : List Wr} (hA : apartW ok ws = true) : namesApart ws := namesApart_of fun i j a b ha hb hij => by
  have hap := (apart_at hA hb).2
  unfold namedW at hap
  rw [List.any_eq_false] at hap
  have := hap a (List.mem_of_getElem? (show (ws.take j)[i]? = some a by rw [List.getElem?_take, if_pos hij]; exact ha))
  simpa using this
theorem indexC_in : ∀ (ws : List Wr) (K : Int) (n : ByteArray) (r c k : Int), (∀ x ∈ ws, wareB x) → indexC ws K n r c = some k → K ≤ k ∧ k < K + countW ws
  | [], _, _, _, _, _, _, h => by cases h
  | w :: ws, K, n, r, c, k, hb, h => by
    obtain ⟨b1, b2, b3, b4⟩ := hb w (List.mem_cons_self ..)
    have hp := count_pos ws (fun x hx => hb x (List.mem_cons_of_mem _ hx))
    rw [indexC] at h
    show K ≤ k ∧ k < K + (w.x * w.y + countW ws)
    have hxy : 0 ≤ w.x * w.y := Int.mul_nonneg (by omega) (by omega)
    split at h
    · rename_i hh
      obtain ⟨h1, h2, h3, h4⟩ := hasB_in hh
      have e := Option.some.inj h
      have m1 : 0 ≤ r * w.y := Int.mul_nonneg h1 (by omega)
      have m2 : (r + 1) * w.y ≤ w.x * w.y := Int.mul_le_mul_of_nonneg_right (by omega) (by omega)
      rw [Int.add_mul, Int.one_mul] at m2
      omega
    · have ih := indexC_in ws _ n r c k (fun x hx => hb x (List.mem_cons_of_mem _ hx)) h
      omega
theorem count_le : ∀ ws : List Wr, (∀ x ∈ ws, wareB x) → countW ws ≤ 96 * ws.length
  | [], _ => by simp [countW]
  | w :: ws, h => by
    obtain ⟨b1, b2, b3, b4⟩ := h w (List.mem_cons_self ..)
    have := count_le ws (fun x hx => h x (List.mem_cons_of_mem _ hx))
    have m2 : w.x * w.y ≤ 8 * 12 := mul_le (by omega) b2 (by omega) b4
    show w.x * w.y + countW ws ≤ _
    rw [List.length_cons]
    omega
theorem right_fill {d : Dk} (h : rightD d = true) {i : Nat} {f : Fl} (hf : d.fs[i]? = some f) : (∃ k, indexC d.ws 0 f.n f.r f.c = some k ∧ 0 ≤ k ∧ k < countW d.ws) ∧ 0 ≤ f.v ∧ f.v ≤ 20000000 := by
  obtain ⟨_, _, pW, _⟩ := right_parts9 h
  have hF : fillsOk d.ws d.fs = true := by
    unfold rightD at h
    simp only [Bool.and_eq_true] at h
    exact h.2
  cases hx : (hasW d.ws f.n f.r f.c && inB f.v 0 20000000 && !filledW (d.fs.take i) f.n f.r f.c) with
  | false => rw [fl_no hf hx] at hF; cases hF
  | true =>
    simp only [Bool.and_eq_true, inB, decide_eq_true_eq] at hx
    refine ⟨?_, hx.1.2⟩
    have h1 := hx.1.1
    unfold hasW at h1
    rw [← indexC_eq d.ws 0 f.n f.r f.c (apart_names pW)] at h1
    obtain ⟨k, hk⟩ := Option.isSome_iff_exists.1 h1
    have := indexC_in d.ws 0 f.n f.r f.c k (wares_in pW) hk
    exact ⟨k, hk, this.1, by omega⟩
end Go.Proofs.Ytnmcgleanpdlmaa

namespace Go.Proofs.Ytnmcgleanpdlmaa
open Go.RowKit
set_option linter.unusedVariables false
/-- A row of numbers as cells. -/
def flatL (v : List Int) : List Value := v.map (fun x => .int .i64 x)
theorem flatL_len (v : List Int) : (flatL v).length = v.length := by unfold flatL; rw [List.length_map]
theorem flatL_get {v : List Int} {i : Nat} {x : Int} (h : v[i]? = some x) : (flatL v)[i]? = some (.int .i64 x) := by unfold flatL; rw [List.getElem?_map, h]; rfl
theorem flatL_set (v : List Int) (i : Nat) (x : Int) : (flatL v).set i (.int .i64 x) = flatL (v.set i x) := by unfold flatL; rw [List.map_set]
/-- The number of a well. -/
def ixW (d : Dk) (p : Wp) : Option Nat := (indexC d.ws 0 p.n p.r p.c).map Int.toNat
def cntD (d : Dk) : Nat := (countW d.ws).toNat
theorem ixW_lt {d : Dk} (hb : ∀ x ∈ d.ws, wareB x) {p : Wp} {k : Nat} (h : ixW d p = some k) : k < cntD d ∧ indexC d.ws 0 p.n p.r p.c = some (k : Int) := by
  unfold ixW at h
  cases hi : indexC d.ws 0 p.n p.r p.c with
  | none => rw [hi] at h; cases h
  | some x =>
    rw [hi] at h
    have e : x.toNat = k := Option.some.inj h
    have := indexC_in d.ws 0 _ _ _ x hb hi
    unfold cntD
    exact ⟨by omega, by rw [show (k : Int) = x by omega]⟩
theorem ixW_no {d : Dk} {p : Wp} (h : ixW d p = none) : indexC d.ws 0 p.n p.r p.c = none := by
  unfold ixW at h
  cases hi : indexC d.ws 0 p.n p.r p.c with
  | none => rfl
  | some x => rw [hi] at h; cases h
/-- A fill. -/
def fillX (d : Dk) (v : List Int) (f : Fl) : Except Nat (List Int) :=
  match ixW d ⟨f.n, f.r, f.c⟩ with
  | none => .error 26
  | some k => if inB f.v 0 21000000 then .ok (v.set k f.v) else .error 20
def fillsX (d : Dk) : List Fl → List Int → Except Nat (List Int)
  | [], v => .ok v
  | f :: l, v => match fillX d v f with
    | .ok v' => fillsX d l v'
    | .error n => .error n
def endsX (d : Dk) (o : Opx) : Option (Nat × Nat) :=
  match ixW d o.s, ixW d o.d with
  | some a, some b => some (a, b)
  | _, _ => none
/-- A transfer. -/
def moveX (d : Dk) (v : List Int) (o : Opx) : Except Nat (List Int) :=
  match endsX d o with
  | none => .error 26
  | some (a, b) =>
    if inB o.v 1 20000000 then
      (if a = b then .ok v
       else if v.getD a 0 < o.v then .error 30
       else .ok ((v.set a (v.getD a 0 - o.v)).set b (v.getD b 0 + o.v)))
    else .error 20
def movesX (d : Dk) : List Opx → List Int → Except Nat (List Int)
  | [], v => .ok v
  | o :: l, v => match moveX d v o with
    | .ok v' => movesX d l v'
    | .error n => .error n
def srunX (d : Dk) (F : List Fl) (L : List Opx) : Except Nat (List Int) :=
  match fillsX d (d.fs ++ F) (List.replicate (cntD d) 0) with
  | .ok v => movesX d L v
  | .error n => .error n
theorem fillsX_ok {d : Dk} {L : List Fl} {i : Nat} {f : Fl} {v v' : List Int} (h : L[i]? = some f) (hs : fillX d v f = .ok v') : fillsX d (L.drop i) v = fillsX d (L.drop (i + 1)) v' := by
  rw [List.drop_eq_getElem_cons (List.getElem?_eq_some_iff.1 h).1, (List.getElem?_eq_some_iff.1 h).2, fillsX, hs]
theorem fillsX_err {d : Dk} {L : List Fl} {i n : Nat} {f : Fl} {v : List Int} (h : L[i]? = some f) (hs : fillX d v f = .error n) : fillsX d (L.drop i) v = .error n := by
  rw [List.drop_eq_getElem_cons (List.getElem?_eq_some_iff.1 h).1, (List.getElem?_eq_some_iff.1 h).2, fillsX, hs]
theorem movesX_ok {d : Dk} {L : List Opx} {i : Nat} {o : Opx} {v v' : List Int} (h : L[i]? = some o) (hs : moveX d v o = .ok v') : movesX d (L.drop i) v = movesX d (L.drop (i + 1)) v' := by
  rw [List.drop_eq_getElem_cons (List.getElem?_eq_some_iff.1 h).1, (List.getElem?_eq_some_iff.1 h).2, movesX, hs]
theorem movesX_err {d : Dk} {L : List Opx} {i n : Nat} {o : Opx} {v : List Int} (h : L[i]? = some o) (hs : moveX d v o = .error n) : movesX d (L.drop i) v = .error n := by
  rw [List.drop_eq_getElem_cons (List.getElem?_eq_some_iff.1 h).1, (List.getElem?_eq_some_iff.1 h).2, movesX, hs]
/-- What wells hold: as many numbers as there are wells, none below nothing, and not too much in all. -/
structure VOk (C : Nat) (v : List Int) : Prop where
  len : v.length = C
  pos : ∀ x ∈ v, 0 ≤ x
  sum : v.sum ≤ C * 21000000
theorem sum_set : ∀ (v : List Int) (i : Nat) (x y : Int), v[i]? = some y → (v.set i x).sum = v.sum - y + x
  | [], _, _, _, h => by simp at h
  | a :: v, 0, x, y, h => by
    obtain rfl : a = y := by simpa using h
    rw [List.set_cons_zero, List.sum_cons, List.sum_cons]
    omega
  | a :: v, i + 1, x, y, h => by
    have ih := sum_set v i x y (by simpa using h)
    rw [List.set_cons_succ, List.sum_cons, List.sum_cons, ih]
    omega
theorem sum_pos : ∀ v : List Int, (∀ x ∈ v, 0 ≤ x) → 0 ≤ v.sum
  | [], _ => by simp
  | a :: v, h => by
    have := sum_pos v (fun x hx => h x (List.mem_cons_of_mem _ hx))
    have := h a (List.mem_cons_self ..)
    rw [List.sum_cons]
    omega
theorem le_sum : ∀ (v : List Int) (i : Nat) (y : Int), (∀ x ∈ v, 0 ≤ x) → v[i]? = some y → y ≤ v.sum
  | [], _, _, _, h => by simp at h
  | a :: v, 0, y, hp, h => by
    obtain rfl : a = y := by simpa using h
    have := sum_pos v (fun x hx => hp x (List.mem_cons_of_mem _ hx))
    rw [List.sum_cons]
    omega
  | a :: v, i + 1, y, hp, h => by
    have := le_sum v i y (fun x hx => hp x (List.mem_cons_of_mem _ hx)) (by simpa using h)
    have := hp a (List.mem_cons_self ..)
    rw [List.sum_cons]
    omega
theorem sum_le : ∀ (v : List Int) (M : Int), (∀ x ∈ v, x ≤ M) → v.sum ≤ v.length * M
  | [], _, _ => by simp
  | a :: v, M, h => by
    have ih := sum_le v M (fun x hx => h x (List.mem_cons_of_mem _ hx))
    have := h a (List.mem_cons_self ..)
    rw [List.sum_cons, List.length_cons]
    have e : ((v.length + 1 : Nat) : Int) * M = v.length * M + M := by rw [Int.natCast_add, Int.add_mul]; simp
    rw [e]
    omega
/-- What wells hold at first. -/
structure FOk (C : Nat) (v : List Int) : Prop where
  len : v.length = C
  all : ∀ x ∈ v, 0 ≤ x ∧ x ≤ 21000000
theorem FOk.v {C : Nat} {v : List Int} (h : FOk C v) : VOk C v :=
  ⟨h.len, fun x hx => (h.all x hx).1, by have := sum_le v 21000000 (fun x hx => (h.all x hx).2); rw [h.len] at this; exact this⟩
theorem FOk.zero (C : Nat) : FOk C (List.replicate C 0) := ⟨List.length_replicate, fun x hx => by obtain rfl := List.eq_of_mem_replicate hx; omega⟩
theorem FOk.fill {d : Dk} {v v' : List Int} {f : Fl} (h : FOk (cntD d) v) (hs : fillX d v f = .ok v') : FOk (cntD d) v' := by
  unfold fillX at hs
  split at hs
  · cases hs
  · split at hs
    · rename_i hi
      cases hs
      refine ⟨by rw [List.length_set]; exact h.len, fun x hx => ?_⟩
      rcases List.mem_or_eq_of_mem_set hx with hx | rfl
      · exact h.all x hx
      · unfold inB at hi
        simp only [Bool.and_eq_true, decide_eq_true_eq] at hi
        exact hi
    · cases hs
theorem FOk.fills {d : Dk} : ∀ (l : List Fl) {v v' : List Int}, FOk (cntD d) v → fillsX d l v = .ok v' → FOk (cntD d) v'
  | [], v, v', h, hs => by cases hs; exact h
  | f :: l, v, v', h, hs => by
    rw [fillsX] at hs
    cases hf : fillX d v f with
    | error n => rw [hf] at hs; cases hs
    | ok v1 => rw [hf] at hs; exact FOk.fills l (h.fill hf) hs
theorem getD_of {v : List Int} {i : Nat} (h : i < v.length) : v[i]? = some (v.getD i 0) := by
  rw [List.getElem?_eq_getElem h, List.getD_eq_getElem?_getD, List.getElem?_eq_getElem h]; rfl
theorem endsX_lt {d : Dk} (hb : ∀ x ∈ d.ws, wareB x) {o : Opx} {a b : Nat} (h : endsX d o = some (a, b)) : a < cntD d ∧ b < cntD d := by
  unfold endsX at h
  split at h
  · rename_i x y h1 h2
    cases h
    exact ⟨(ixW_lt hb h1).1, (ixW_lt hb h2).1⟩
  · cases h
theorem VOk.at_ {C : Nat} {v : List Int} (h : VOk C v) {a : Nat} (ha : a < C) : v[a]? = some (v.getD a 0) ∧ 0 ≤ v.getD a 0 ∧ v.getD a 0 ≤ v.sum := by
  have h1 := getD_of (v := v) (i := a) (by rw [h.len]; exact ha)
  exact ⟨h1, h.pos _ (List.mem_of_getElem? h1), le_sum v a _ h.pos h1⟩
theorem VOk.move {d : Dk} (hb : ∀ x ∈ d.ws, wareB x) {v v' : List Int} {o : Opx} (h : VOk (cntD d) v) (hs : moveX d v o = .ok v') : VOk (cntD d) v' ∧ v'.sum = v.sum := by
  unfold moveX at hs
  split at hs
  · cases hs
  · rename_i a b he
    obtain ⟨la, lb⟩ := endsX_lt hb he
    split at hs
    · rename_i hi
      unfold inB at hi
      simp only [Bool.and_eq_true, decide_eq_true_eq] at hi
      split at hs
      · cases hs; exact ⟨h, rfl⟩
      · rename_i hab
        split at hs
        · cases hs
        · rename_i hlt
          cases hs
          obtain ⟨a1, a2, a3⟩ := h.at_ la
          obtain ⟨b1, b2, b3⟩ := h.at_ lb
          have s1 := sum_set v a (v.getD a 0 - o.v) _ a1
          have s2 := sum_set (v.set a (v.getD a 0 - o.v)) b (v.getD b 0 + o.v) (v.getD b 0) (by rw [List.getElem?_set_ne hab]; exact b1)
          have e : ((v.set a (v.getD a 0 - o.v)).set b (v.getD b 0 + o.v)).sum = v.sum := by rw [s2, s1]; omega
          refine ⟨⟨by rw [List.length_set, List.length_set]; exact h.len, fun x hx => ?_, by rw [e]; exact h.sum⟩, e⟩
          rcases List.mem_or_eq_of_mem_set hx with hx | rfl
          · rcases List.mem_or_eq_of_mem_set hx with hx | rfl
            · exact h.pos x hx
            · omega
          · omega
    · cases hs
/-- A tip's place. -/
def tipIx (L : List Rec) (n : ByteArray) : Option Nat := L.findIdx? (fun t => t.n.toList == n.toList)
/-- How many strokes a part makes; how many a transfer makes. -/
def pcsX (p : Int) : Int := min p 4
def cntX (m v : Int) : Except Nat Int :=
  if m < 1 then .error 33
  else if 1000 < (v + m - 1).tdiv m then .error 33
  else .ok ((v.tmod ((v + m - 1).tdiv m)) * pcsX (v.tdiv ((v + m - 1).tdiv m) + 1) + ((v + m - 1).tdiv m - v.tmod ((v + m - 1).tdiv m)) * pcsX (v.tdiv ((v + m - 1).tdiv m)))
def strokesT (L : List Rec) (n : ByteArray) (v : Int) : Except Nat Int :=
  match tipIx L n with
  | none => .error 28
  | some i => if inB v 1 20000000 then (match L[i]? with
      | some t => cntX (t.x - 4 * t.z) v
      | none => .error 0) else .error 20
def strokesX (d : Dk) (o : Opx) : Except Nat Int := strokesT d.ts o.t o.v
def touchX (d : Dk) (v : List Int) (o : Opx) : Except Nat (List Int) :=
  match endsX d o with
  | none => .error 26
  | some (a, b) => match strokesX d o with
    | .error n => .error n
    | .ok k => .ok ((v.set a (v.getD a 0 + k)).set b ((v.set a (v.getD a 0 + k)).getD b 0 + k))
def touchesX (d : Dk) : List Opx → List Int → Except Nat (List Int)
  | [], v => .ok v
  | o :: l, v => match touchX d v o with
    | .ok v' => touchesX d l v'
    | .error n => .error n
theorem touchesX_ok {d : Dk} {L : List Opx} {i : Nat} {o : Opx} {v v' : List Int} (h : L[i]? = some o) (hs : touchX d v o = .ok v') : touchesX d (L.drop i) v = touchesX d (L.drop (i + 1)) v' := by
  rw [List.drop_eq_getElem_cons (List.getElem?_eq_some_iff.1 h).1, (List.getElem?_eq_some_iff.1 h).2, touchesX, hs]
theorem touchesX_err {d : Dk} {L : List Opx} {i n : Nat} {o : Opx} {v : List Int} (h : L[i]? = some o) (hs : touchX d v o = .error n) : touchesX d (L.drop i) v = .error n := by
  rw [List.drop_eq_getElem_cons (List.getElem?_eq_some_iff.1 h).1, (List.getElem?_eq_some_iff.1 h).2, touchesX, hs]
end Go.Proofs.Ytnmcgleanpdlmaa

namespace Go.Proofs.Ytnmcgleanpdlmaa
open Go.RowKit Go.Maps Go.WideMaps
set_option linter.unusedVariables false
set_option maxRecDepth 100000 in
set_option maxHeartbeats 4000000 in
theorem dnew_yes (wv tv fv : Value) (d : Dk) (w : World) (h : IsDk w wv tv fv d) (hr : rightD d = true) (hzw : ∀ r ∈ d.ws, r.n.size ≤ maxLen) (hsI : ∀ r ∈ d.ws, I64 r.x ∧ I64 r.y) (hzt : ∀ r ∈ d.ts, r.n.size ≤ maxLen) (hzf : ∀ f ∈ d.fs, f.n.size ≤ maxLen ∧ I64 f.r ∧ I64 f.c) (hf9 : d.fs.length < 1000) :
    Calls Try.prog 16 #[.agg #[wv, tv, fv]] w fun e w' => ∃ (P : Bp) (X : List Th), e = .returned (.tuple #[.pointer (some ⟨P.b, 0, none⟩), .int .i64 0]) ∧ P.d = d ∧ BoardM P w' 0 [] X ∧ w.heap.size ≤ P.lo ∧ P.top = w'.heap.size ∧ B w w' := by
  obtain ⟨ao, ac, bo, bc, co, cc, rfl, rfl, rfl⟩ := h.forms
  obtain ⟨p8, p4, pW, pT⟩ := right_parts9 hr
  have q0 : B w (w.alloc (.cells #[.slice ao d.ws.length ac, .slice bo d.ts.length bc, .slice co d.fs.length cc] 39)) := (B.refl w).alloc _ _
  have hD0 := h.keepB q0
  have hs0 := q0.below.size
  have oD0 := obj_new w (.cells #[.slice ao d.ws.length ac, .slice bo d.ts.length bc, .slice co d.fs.length cc] 39)
  have cR := right9_any _ _ _ d _ hD0 hzw hsI hzt hzf hf9
  rw [hr] at cR
  have l8 : ∀ r ∈ d.ws, r.l.length ≤ 1000000 := fun r hr' => by
    obtain ⟨i, hi, e⟩ := List.getElem_of_mem hr'
    have := right_all (wareOk_right (apart_at pW (show d.ws[i]? = some r by rw [List.getElem?_eq_getElem hi, e])).1)
    omega
  have l4 : ∀ r ∈ d.ts, r.l.length ≤ 1000000 := fun r hr' => by
    obtain ⟨i, hi, e⟩ := List.getElem_of_mem hr'
    have := right_all (tipOk_right (apart_at pT (show d.ts[i]? = some r by rw [List.getElem?_eq_getElem hi, e])).1)
    omega
  have hmm := @run_makeMap Try.prog
  have hnot : ∀ (x : Bool) (w : World), (Op.unary .not (.bool x)).run Try.prog w = .ok (.bool (!x)) w := fun _ _ => rfl
  go_enter Try.func16, Try.ntmps16
  go_wp2_with fail
  generalize w.alloc (.cells #[.slice ao d.ws.length ac, .slice bo d.ts.length bc, .slice co d.fs.length cc] 39) = w0 at *
  refine cR.mono ?_
  rintro e w1 ⟨rfl, q1⟩
  have k0 := obj_cell (q1.obj oD0) 0
  have k1 := obj_cell (q1.obj oD0) 1
  have k2 := obj_cell (q1.obj oD0) 2
  have cC := copied_any _ _ _ d w1 (hD0.keepB q1) l8 l4 (by omega) (by omega) (by omega)
  have hwlo : w.heap.size ≤ w1.heap.size := Nat.le_trans hs0 q1.below.size
  have b1 := q0.trans q1
  clear q0 q1 hD0 oD0 cR hs0 h
  go_wp2_with fail
  refine cC.mono ?_
  rintro e w2 ⟨o1, c1, o2, c2, o3, c3, ss, tt, rfl, HO, q2⟩
  go_wp2_with fail
  refine (cnew_any CTab w2).mono ?_
  rintro e w3 ⟨c, bm, base, rfl, hC3, hbm, hb3, q3⟩
  subst hb3
  have q4 : B w3 (((w3.alloc (.map #[] 0)).alloc (.map #[] 0)).alloc (.cells #[.slice o1 d.ws.length c1, .slice o2 d.ts.length c2, .slice o3 d.fs.length c3, .pointer (some ⟨c, 0, none⟩), .map (some w3.heap.size), .map (some (w3.heap.size + 1))] 110)) := (((B.refl w3).map _ _).map _ _).alloc _ _
  have s4 : (w3.alloc (.map #[] 0)).heap.size = w3.heap.size + 1 := by simp
  have s4b : ((w3.alloc (.map #[] 0)).alloc (.map #[] 0)).heap.size = w3.heap.size + 2 := by simp
  have s4c : (((w3.alloc (.map #[] 0)).alloc (.map #[] 0)).alloc (.cells #[.slice o1 d.ws.length c1, .slice o2 d.ts.length c2, .slice o3 d.fs.length c3, .pointer (some ⟨c, 0, none⟩), .map (some w3.heap.size), .map (some (w3.heap.size + 1))] 110)).heap.size = w3.heap.size + 3 := by simp
  have oB : (((w3.alloc (.map #[] 0)).alloc (.map #[] 0)).alloc (.cells #[.slice o1 d.ws.length c1, .slice o2 d.ts.length c2, .slice o3 d.fs.length c3, .pointer (some ⟨c, 0, none⟩), .map (some w3.heap.size), .map (some (w3.heap.size + 1))] 110)).heap[w3.heap.size + 2]? = some (.cells #[.slice o1 d.ws.length c1, .slice o2 d.ts.length c2, .slice o3 d.fs.length c3, .pointer (some ⟨c, 0, none⟩), .map (some w3.heap.size), .map (some (w3.heap.size + 1))] 110 (0, 0)) := by rw [← s4b]; exact obj_new _ _
  have hM1 : ThMap (((w3.alloc (.map #[] 0)).alloc (.map #[] 0)).alloc (.cells #[.slice o1 d.ws.length c1, .slice o2 d.ts.length c2, .slice o3 d.fs.length c3, .pointer (some ⟨c, 0, none⟩), .map (some w3.heap.size), .map (some (w3.heap.size + 1))] 110)) w3.heap.size [] [] := ((ThMap.new w3).g (S := fun _ => False) (G.alloc (G.refl _ _) _) (fun h => h)).g (S := fun _ => False) (G.alloc (G.refl _ _) _) (fun h => h)
  have hM2 : ThMap (((w3.alloc (.map #[] 0)).alloc (.map #[] 0)).alloc (.cells #[.slice o1 d.ws.length c1, .slice o2 d.ts.length c2, .slice o3 d.fs.length c3, .pointer (some ⟨c, 0, none⟩), .map (some w3.heap.size), .map (some (w3.heap.size + 1))] 110)) (w3.heap.size + 1) [] [] := by
    have := (ThMap.new (w3.alloc (.map #[] 0))).g (S := fun _ => False) (G.alloc (G.refl _ _) (.cells #[.slice o1 d.ws.length c1, .slice o2 d.ts.length c2, .slice o3 d.fs.length c3, .pointer (some ⟨c, 0, none⟩), .map (some w3.heap.size), .map (some (w3.heap.size + 1))] 110)) (fun h => h)
    rw [s4] at this
    exact this
  have hC4 := CacheM.keepB hC3 q4
  have hcb := hC3.lb
  have hcl := hC3.lt
  have HC := Lib.hid hC4
  have HM := Lib.hid (And.intro hM1 hM2)
  have hoB := Lib.hid oB
  have b24 := q3.trans q4
  have b12 := b1.trans q2
  have hhi : w1.heap.size ≤ w2.heap.size := q2.below.size
  clear q3 q4 hC4 hM1 hM2 oB hC3 k0 k1 k2 cC b1 q2 s4
  go_wp2_with fail
  have oB := hoB.out
  clear hoB s4b
  generalize (((w3.alloc (.map #[] 0)).alloc (.map #[] 0)).alloc (.cells #[.slice o1 d.ws.length c1, .slice o2 d.ts.length c2, .slice o3 d.fs.length c3, .pointer (some ⟨c, 0, none⟩), .map (some w3.heap.size), .map (some (w3.heap.size + 1))] 110)) = W4 at *
  generalize hb : w3.heap.size + 2 = b at *
  generalize hmt : w3.heap.size + 1 = mt at *
  generalize hmw : w3.heap.size = mw at *
  generalize hlo : w1.heap.size = lo at *
  generalize hh' : w2.heap.size = hh at *
  obtain ⟨Wsz, hWsz⟩ : ∃ z, W4.heap.size = z := ⟨_, rfl⟩
  have hS0 : NewS d lo hh b mw mt w2 W4 W4 [] 0 0 := ⟨G.refl _ _, rfl, fun j r h => by omega, fun j r h => by omega, HM.out.1, HM.out.2, fun x h => (by cases h), fun x h => (by cases h), fun x h => (by cases h), List.Pairwise.nil⟩
  go_loopw [25] (fun iv wr => ∃ (i : Nat) (X : List Th), i ≤ d.ws.length ∧ iv = .int .i64 i ∧ NewS d lo hh b mw mt w2 W4 wr X i 0) (fun iv _ => d.ws.length + 1 - (intOf iv).toNat)
  case atStart => exact ⟨0, [], Nat.zero_le _, rfl, hS0⟩
  case round =>
  
    obtain ⟨i, X, hi, rfl, hS⟩ := hrel
    obtain ⟨wl, rfl⟩ : ∃ wl : World, wl = wr := ⟨_, rfl⟩
    have oBr := hS.g.obj (by show ¬ (b = mw ∨ b = mt); omega) oB
    have bwr : B w2 wl := hS.g.b b24 (fun i hi => by rcases hi with rfl | rfl <;> omega)
    by_cases hl : i < d.ws.length
    · have hlB : decide ((i : Int) < (d.ws.length : Int)) = true := decide_eq_true (by omega)
      have hlN : decide (i < d.ws.length) = true := decide_eq_true hl
      have hlI : (i : Int) < (d.ws.length : Int) := by omega
      have hi0 : (0 : Int) ≤ (i : Int) := by omega
      have wk1 : IntKind.i64.wrap ((i : Int) + 1) = (i : Int) + 1 := by rw [IntKind.wrap_i64]; omega
      have HOr := HO.on (fun i _ h2 => bwr.below.block i h2)
      have hr : d.ws[i]? = some d.ws[i] := List.getElem?_eq_getElem (by omega)
      have hv : ss[i]? = some (ss[i]'(by have := HO.sl; omega)) := List.getElem?_eq_getElem _
      have hsec := (HO.heldW i _ _ hr hv).keepB bwr
      rw [hh'] at hsec
      obtain ⟨vo, vn, vc, hvv⟩ := hsec.now.form
      rw [hvv] at hv hsec
      clear hvv
      have hrow := HOr.ws
      obtain ⟨g, cp, hsl, hgk, hglt⟩ := hrow.form (by omega)
      simp only [Value.slice.injEq, true_and] at hsl
      obtain ⟨rfl, rfl⟩ := hsl
      have hrc := fun j (hj : j < 5) => (hrow.cellAt (i * 5 + j) (by omega)).trans (flatR_get d.ws ss i j _ _ hr hv hj)
      have y0 := hrc 0 (by omega)
      have y1 := hrc 1 (by omega)
      have y2 := hrc 2 (by omega)
      have y3 := hrc 3 (by omega)
      have y4 := hrc 4 (by omega)
      obtain ⟨pok, pap⟩ := apart_at pW hr
      have hR := wareOk_right pok
      rw [← names_map] at pap
      have hnz := hzw _ (List.mem_of_getElem? hr)
      generalize d.ws[i] = r at *
      obtain ⟨N, RX, RY, RZ, RL⟩ := r
      simp only [Rec.cells, List.getElem?_cons_zero, List.getElem?_cons_succ] at y0 y1 y2 y3 y4
      simp only at hR pap hnz hsec
      rw [Nat.add_zero] at y0
      have y0' : wl.cell? ⟨g, i * 5, none⟩ = some (.string N) := y0
      obtain ⟨D, hD, hDm, hDA, hDH⟩ := hS.wm
      obtain ⟨kk, hkk⟩ : ∃ kk, ((d.ws.take i).map (·.n)).length = kk := ⟨_, rfl⟩
      have hk8 : kk ≤ 8 := by rw [← hkk]; simp; omega
      rw [hkk] at hD
      have key := key9 N hnz
      have HK := Lib.hid (And.intro hkk (And.intro (show (((d.ws.take i).map (·.n)).length = ((X.take i).map (·.b)).length) by have := hS.len; simp; omega) (And.intro hDA (And.intro hDH (And.intro pap (And.intro hR (And.intro hsec (And.intro hr hl))))))))
      have HS := Lib.hid (And.intro hS bwr)
      have hgs := hS.g.size
      clear hS bwr hDA hDH pap hR hsec hr hkk hv HOr hrow hrc pok y0 hglt hgk hDm
      have s3 := obj_cell oBr 4
      have Gxs : wl.heap.size = wl.heap.size := rfl
      go_wp2_with fail
      have g0 : (wl.alloc (.cells #[.string N, .int .i64 RX, .int .i64 RY, .int .i64 RZ, .slice vo vn vc] 64)).cell? ⟨wl.heap.size, 0, none⟩ = some (.string N) := obj_cell (obj_new _ _) 0
      have g4 : (wl.alloc (.cells #[.string N, .int .i64 RX, .int .i64 RY, .int .i64 RZ, .slice vo vn vc] 64)).cell? ⟨wl.heap.size, 4, none⟩ = some (.slice vo vn vc) := obj_cell (obj_new _ _) 4
      have qx : B wl (wl.alloc (.cells #[.string N, .int .i64 RX, .int .i64 RY, .int .i64 RZ, .slice vo vn vc] 64)) := (B.refl _).alloc _ _
      have hDx := hD.alloc (.cells #[.string N, .int .i64 RX, .int .i64 RY, .int .i64 RZ, .slice vo vn vc] 64)
      have zx : (wl.alloc (.cells #[.string N, .int .i64 RX, .int .i64 RY, .int .i64 RZ, .slice vo vn vc] 64)).heap.size = wl.heap.size + 1 := by simp
      have hsx : Wsz ≤ wl.heap.size := Nat.le_trans (Nat.le_of_eq hWsz.symm) hgs
      replace s3 := qx.keep s3
      have HZx := Lib.hid zx
      clear Gxs hD y0' y1 y2 y3 y4 zx
      generalize hWx : wl.alloc (.cells #[.string N, .int .i64 RX, .int .i64 RY, .int .i64 RZ, .slice vo vn vc] 64) = Wx at *
      generalize hGx : wl.heap.size = Gx at *
      have cU := fun (w : World) (hE : w.ownsMap Try.prog 9 ptrElem mw kk D) => hE.store str_law Try.underlying108 (by unfold maxLen; omega) key (ptrElem_at Wx.heap.size)
      replace hDx : Wx.drew.ownsMap Try.prog 9 ptrElem mw kk D := hDx
      refine wp_region_noPanic ?_
      refine wp_region_gate (S := fun w' => B Wx w' ∧ w'.cell? ⟨b, 4, none⟩ = some (.map (some mw)) ∧ w'.cell? ⟨Gx, 0, none⟩ = some (.string N) ∧ w'.cell? ⟨Gx, 4, none⟩ = some (.slice vo vn vc) ∧ w'.ownsMap Try.prog 9 ptrElem mw kk D) 11 [(0, 3), (1, 3), (2, 3), (3, 0), (4, 3), (5, 0), (6, 3), (7, 3), (8, 0), (9, 3), (10, 2), (11, 4)] [0, 1, 2, 4, 0, 16, 0, 0, 128, 320, 512, 2047] [0, 1, 2, 4, 0, 16, 0, 0, 128, 320, 512, 1064] [0, 0, 0, 2056, 0, 2080, 0, 0, 3840, 0, 0, 0] (by kernel_rfl) (by kernel_rfl) (fun _ _ _ _ _ h => h) ?_ (fun hH => ?_)
      · exact ⟨(B.refl _).drew, s3, g0, g4, hDx⟩
      refine wpSeqG_free (d := 30) (v := ?_) rfl rfl (by kernel_rfl) (fun w => ?_) ?_
      rotate_left
      · go_simp <;> with_reducible rfl
      dsimp only [List.set_cons_zero, List.set_cons_succ]
      refine wpSeqG_free (d := 31) (v := ?_) rfl rfl (by kernel_rfl) (fun w => ?_) ?_
      rotate_left
      · go_simp <;> with_reducible rfl
      dsimp only [List.set_cons_zero, List.set_cons_succ]
      refine wpSeqG_free (d := 32) (v := ?_) rfl rfl (by kernel_rfl) (fun w => ?_) ?_
      rotate_left
      · go_simp <;> with_reducible rfl
      dsimp only [List.set_cons_zero, List.set_cons_succ]
      refine wpSeqG_take (d := 33) (v := ?_) rfl rfl (by kernel_rfl) (fun w hS => ?_) ?_
      rotate_left
      · go_simp <;> with_reducible rfl
      dsimp only [List.set_cons_zero, List.set_cons_succ]
      refine wpSeqG_free (d := 34) (v := ?_) rfl rfl (by kernel_rfl) (fun w => ?_) ?_
      rotate_left
      · go_simp <;> with_reducible rfl
      dsimp only [List.set_cons_zero, List.set_cons_succ]
      refine wpSeqG_take (d := 35) (v := ?_) rfl rfl (by kernel_rfl) (fun w hS => ?_) ?_
      rotate_left
      · go_simp <;> with_reducible rfl
      dsimp only [List.set_cons_zero, List.set_cons_succ]
      refine wpSeqG_free (d := 36) (v := ?_) rfl rfl (by kernel_rfl) (fun w => ?_) ?_
      rotate_left
      · go_simp <;> with_reducible rfl
      dsimp only [List.set_cons_zero, List.set_cons_succ]
      refine wpSeqG_free (d := 37) (v := ?_) rfl rfl (by kernel_rfl) (fun w => ?_) ?_
      rotate_left
      · go_simp <;> with_reducible rfl
      dsimp only [List.set_cons_zero, List.set_cons_succ]
      refine wpSeqG_take (d := 38) (v := ?_) rfl rfl (by kernel_rfl) (fun w hS => ?_) ?_
      rotate_left
      · go_simp <;> with_reducible rfl
      dsimp only [List.set_cons_zero, List.set_cons_succ]
      refine wpSeqG_free (d := 39) (v := ?_) rfl rfl (by kernel_rfl) (fun w => ?_) ?_
      rotate_left
      · go_simp <;> with_reducible rfl
      dsimp only [List.set_cons_zero, List.set_cons_succ]
      refine wpSeqG_call rfl (by kernel_rfl) (fun K hK => ?_)
      go_simp
      refine hK.out _ _ ?_ (fun hH => ?_)
      · exact ⟨hH.1.alloc _ _, ((B.refl _).alloc _ _).keep hH.2.1, ((B.refl _).alloc _ _).keep hH.2.2.1, ((B.refl _).alloc _ _).keep hH.2.2.2.1, hH.2.2.2.2.alloc _⟩
      clear hK
      refine wpSeqG_gate rfl (by kernel_rfl) (fun K hK => ?_)
      go_simp
      obtain ⟨w4, e4, hE4, ht4⟩ := cU _ hH.2.2.2.2
      rw [e4]
      go_simp
      refine hK.out _ _ ?_
      clear hK
      refine wpSeqG_done ?_
      refine NoPanic.normal ?_
      obtain ⟨hkk, hlen, hDA, hDH, pap, hR, hsec, hr, hl⟩ := HK.out
      obtain ⟨hS, bwr⟩ := HS.out
      have zx := HZx.out
      have ob := obj_new Wx.drew (.cells #[.int .i64 (i : Int), .slice vo vn vc, .int .u32 0, .int .i32 0, .int .u32 0, .pointer none] 125)
      replace ob : (Wx.drew.alloc (.cells #[.int .i64 (i : Int), .slice vo vn vc, .int .u32 0, .int .i32 0, .int .u32 0, .pointer none] 125)).heap[Wx.heap.size]? = _ := ob
      have gA := ht4.grown
      have gN : G (fun k => k = mw) wl w4 := ((qx.g (fun k => k = mw)).trans ((((B.refl Wx).drew).alloc _ _).g _)).grown gA (fun k hk => .inl (Option.some.inj hk).symm)
      have zt : Wx.heap.size ≠ mw := by omega
      have hz9 : Wx.heap.size < (Wx.drew.alloc (.cells #[.int .i64 (i : Int), .slice vo vn vc, .int .u32 0, .int .i32 0, .int .u32 0, .pointer none] 125)).heap.size := obj_lt ob
      have ob4 := (gA.block Wx.heap.size hz9 (fun e => zt (Option.some.inj e))).trans ob
      obtain ⟨hA4, hH4⟩ := th_put (b := Wx.heap.size) hDx.isMap hlen hDA hDH pap
      have hTM : ThMap w4 mw (((d.ws.take i).map (·.n)) ++ [N]) (((X.take i).map (·.b)) ++ [Wx.heap.size]) := ⟨_, by rw [List.length_append, hkk]; exact hE4, hE4.isMap, hA4, hH4⟩
      have hgs4 := gA.size
      have hN := hS.addW (r := ⟨N, RX, RY, RZ, RL⟩) hr (by omega) (by omega) gN (Nat.lt_of_lt_of_le hz9 hgs4) (by omega) (by omega) (by omega) ob4 (gN.held hsec (fun k hk1 hk2 hk3 => by omega)) hR hTM
      have HN := Lib.hid (And.intro hN hl)
      clear hN hTM hA4 hH4 ob4 hz9 gN gA ob hS bwr hDA hDH pap hR hsec hr hkk HK HS hE4 ht4 e4 hH cU hDx hgs4
      go_wp2
      go_roundw
      case rel => exact ⟨i + 1, _, by have := HN.out.2; omega, by go_num, HN.out.1⟩
      case measure => have := HN.out.2; simp [intOf]; omega
    · have hlB : decide ((i : Int) < (d.ws.length : Int)) = false := decide_eq_false (by omega)
      have hlN : decide (i < d.ws.length) = false := decide_eq_false hl
      obtain rfl : i = d.ws.length := by omega
      have sT := obj_cell oBr 1
      have oBq := oBr
      go_wp2_with fail
      go_loopw [48] (fun iv wr => ∃ (i : Nat) (X : List Th), i ≤ d.ts.length ∧ iv = .int .i64 i ∧ NewS d lo hh b mw mt w2 W4 wr X d.ws.length i) (fun iv _ => d.ts.length + 1 - (intOf iv).toNat)
      case atStart => exact ⟨0, X, Nat.zero_le _, rfl, hS⟩
      case round =>
        clear hS X
        obtain ⟨i, X, hi, rfl, hS⟩ := hrel
        obtain ⟨wl, rfl⟩ : ∃ wl : World, wl = wr := ⟨_, rfl⟩
        have oBr := hS.g.obj (by show ¬ (b = mw ∨ b = mt); omega) oB
        have bwr : B w2 wl := hS.g.b b24 (fun i hi => by rcases hi with rfl | rfl <;> omega)
        by_cases hl : i < d.ts.length
        · have hlB : decide ((i : Int) < (d.ts.length : Int)) = true := decide_eq_true (by omega)
          have hlN : decide (i < d.ts.length) = true := decide_eq_true hl
          have hlI : (i : Int) < (d.ts.length : Int) := by omega
          have hi0 : (0 : Int) ≤ (i : Int) := by omega
          have wk1 : IntKind.i64.wrap ((i : Int) + 1) = (i : Int) + 1 := by rw [IntKind.wrap_i64]; omega
          have HOr := HO.on (fun i _ h2 => bwr.below.block i h2)
          have hr : d.ts[i]? = some d.ts[i] := List.getElem?_eq_getElem (by omega)
          have hv : tt[i]? = some (tt[i]'(by have := HO.tl; omega)) := List.getElem?_eq_getElem _
          have hsec := (HO.heldT i _ _ hr hv).keepB bwr
          rw [hh'] at hsec
          obtain ⟨vo, vn, vc, hvv⟩ := hsec.now.form
          rw [hvv] at hv hsec
          clear hvv
          have hrow := HOr.ts
          obtain ⟨g, cp, hsl, hgk, hglt⟩ := hrow.form (by omega)
          simp only [Value.slice.injEq, true_and] at hsl
          obtain ⟨rfl, rfl⟩ := hsl
          have hrc := fun j (hj : j < 5) => (hrow.cellAt (i * 5 + j) (by omega)).trans (flatR_get d.ts tt i j _ _ hr hv hj)
          have y0 := hrc 0 (by omega)
          have y1 := hrc 1 (by omega)
          have y2 := hrc 2 (by omega)
          have y3 := hrc 3 (by omega)
          have y4 := hrc 4 (by omega)
          obtain ⟨pok, pap⟩ := apart_at pT hr
          have hR := tipOk_right pok
          rw [← names_map] at pap
          have hnz := hzt _ (List.mem_of_getElem? hr)
          generalize d.ts[i] = r at *
          obtain ⟨N, RX, RY, RZ, RL⟩ := r
          simp only [Rec.cells, List.getElem?_cons_zero, List.getElem?_cons_succ] at y0 y1 y2 y3 y4
          simp only at hR pap hnz hsec
          rw [Nat.add_zero] at y0
          have y0' : wl.cell? ⟨g, i * 5, none⟩ = some (.string N) := y0
          obtain ⟨D, hD, hDm, hDA, hDH⟩ := hS.tm
          obtain ⟨kk, hkk⟩ : ∃ kk, ((d.ts.take i).map (·.n)).length = kk := ⟨_, rfl⟩
          have hk8 : kk ≤ 8 := by rw [← hkk]; simp; omega
          rw [hkk] at hD
          have key := key9 N hnz
          have HK := Lib.hid (And.intro hkk (And.intro (show (((d.ts.take i).map (·.n)).length = ((X.drop d.ws.length).map (·.b)).length) by have := hS.len; simp; omega) (And.intro hDA (And.intro hDH (And.intro pap (And.intro hR (And.intro hsec (And.intro hr hl))))))))
          have HS := Lib.hid (And.intro hS bwr)
          have hgs := hS.g.size
          clear hS bwr hDA hDH pap hR hsec hr hkk hv HOr hrow hrc pok y0 hglt hgk hDm
          have s3 := obj_cell oBr 5
          have Gxs : wl.heap.size = wl.heap.size := rfl
          go_wp2_with fail
          have g0 : (wl.alloc (.cells #[.string N, .int .i64 RX, .int .i64 RY, .int .i64 RZ, .slice vo vn vc] 59)).cell? ⟨wl.heap.size, 0, none⟩ = some (.string N) := obj_cell (obj_new _ _) 0
          have g4 : (wl.alloc (.cells #[.string N, .int .i64 RX, .int .i64 RY, .int .i64 RZ, .slice vo vn vc] 59)).cell? ⟨wl.heap.size, 4, none⟩ = some (.slice vo vn vc) := obj_cell (obj_new _ _) 4
          have qx : B wl (wl.alloc (.cells #[.string N, .int .i64 RX, .int .i64 RY, .int .i64 RZ, .slice vo vn vc] 59)) := (B.refl _).alloc _ _
          have hDx := hD.alloc (.cells #[.string N, .int .i64 RX, .int .i64 RY, .int .i64 RZ, .slice vo vn vc] 59)
          have zx : (wl.alloc (.cells #[.string N, .int .i64 RX, .int .i64 RY, .int .i64 RZ, .slice vo vn vc] 59)).heap.size = wl.heap.size + 1 := by simp
          have hsx : Wsz ≤ wl.heap.size := Nat.le_trans (Nat.le_of_eq hWsz.symm) hgs
          replace s3 := qx.keep s3
          have HZx := Lib.hid zx
          clear Gxs hD y0' y1 y2 y3 y4 zx
          generalize hWx : wl.alloc (.cells #[.string N, .int .i64 RX, .int .i64 RY, .int .i64 RZ, .slice vo vn vc] 59) = Wx at *
          generalize hGx : wl.heap.size = Gx at *
          have cU := fun (w : World) (hE : w.ownsMap Try.prog 9 ptrElem mt kk D) => hE.store str_law Try.underlying108 (by unfold maxLen; omega) key (ptrElem_at Wx.heap.size)
          replace hDx : Wx.drew.ownsMap Try.prog 9 ptrElem mt kk D := hDx
          refine wp_region_noPanic ?_
          refine wp_region_gate (S := fun w' => B Wx w' ∧ w'.cell? ⟨b, 5, none⟩ = some (.map (some mt)) ∧ w'.cell? ⟨Gx, 0, none⟩ = some (.string N) ∧ w'.cell? ⟨Gx, 4, none⟩ = some (.slice vo vn vc) ∧ w'.ownsMap Try.prog 9 ptrElem mt kk D) 11 [(0, 3), (1, 3), (2, 3), (3, 0), (4, 3), (5, 0), (6, 3), (7, 3), (8, 0), (9, 3), (10, 2), (11, 4)] [0, 1, 2, 4, 0, 16, 0, 0, 128, 320, 512, 2047] [0, 1, 2, 4, 0, 16, 0, 0, 128, 320, 512, 1064] [0, 0, 0, 2056, 0, 2080, 0, 0, 3840, 0, 0, 0] (by kernel_rfl) (by kernel_rfl) (fun _ _ _ _ _ h => h) ?_ (fun hH => ?_)
          · exact ⟨(B.refl _).drew, s3, g0, g4, hDx⟩
          refine wpSeqG_free (d := 53) (v := ?_) rfl rfl (by kernel_rfl) (fun w => ?_) ?_
          rotate_left
          · go_simp <;> with_reducible rfl
          dsimp only [List.set_cons_zero, List.set_cons_succ]
          refine wpSeqG_free (d := 54) (v := ?_) rfl rfl (by kernel_rfl) (fun w => ?_) ?_
          rotate_left
          · go_simp <;> with_reducible rfl
          dsimp only [List.set_cons_zero, List.set_cons_succ]
          refine wpSeqG_free (d := 55) (v := ?_) rfl rfl (by kernel_rfl) (fun w => ?_) ?_
          rotate_left
          · go_simp <;> with_reducible rfl
          dsimp only [List.set_cons_zero, List.set_cons_succ]
          refine wpSeqG_take (d := 56) (v := ?_) rfl rfl (by kernel_rfl) (fun w hS => ?_) ?_
          rotate_left
          · go_simp <;> with_reducible rfl
          dsimp only [List.set_cons_zero, List.set_cons_succ]
          refine wpSeqG_free (d := 57) (v := ?_) rfl rfl (by kernel_rfl) (fun w => ?_) ?_
          rotate_left
          · go_simp <;> with_reducible rfl
          dsimp only [List.set_cons_zero, List.set_cons_succ]
          refine wpSeqG_take (d := 58) (v := ?_) rfl rfl (by kernel_rfl) (fun w hS => ?_) ?_
          rotate_left
          · go_simp <;> with_reducible rfl
          dsimp only [List.set_cons_zero, List.set_cons_succ]
          refine wpSeqG_free (d := 59) (v := ?_) rfl rfl (by kernel_rfl) (fun w => ?_) ?_
          rotate_left
          · go_simp <;> with_reducible rfl
          dsimp only [List.set_cons_zero, List.set_cons_succ]
          refine wpSeqG_free (d := 60) (v := ?_) rfl rfl (by kernel_rfl) (fun w => ?_) ?_
          rotate_left
          · go_simp <;> with_reducible rfl
          dsimp only [List.set_cons_zero, List.set_cons_succ]
          refine wpSeqG_take (d := 61) (v := ?_) rfl rfl (by kernel_rfl) (fun w hS => ?_) ?_
          rotate_left
          · go_simp <;> with_reducible rfl
          dsimp only [List.set_cons_zero, List.set_cons_succ]
          refine wpSeqG_free (d := 62) (v := ?_) rfl rfl (by kernel_rfl) (fun w => ?_) ?_
          rotate_left
          · go_simp <;> with_reducible rfl
          dsimp only [List.set_cons_zero, List.set_cons_succ]
          refine wpSeqG_call rfl (by kernel_rfl) (fun K hK => ?_)
          go_simp
          refine hK.out _ _ ?_ (fun hH => ?_)
          · exact ⟨hH.1.alloc _ _, ((B.refl _).alloc _ _).keep hH.2.1, ((B.refl _).alloc _ _).keep hH.2.2.1, ((B.refl _).alloc _ _).keep hH.2.2.2.1, hH.2.2.2.2.alloc _⟩
          clear hK
          refine wpSeqG_gate rfl (by kernel_rfl) (fun K hK => ?_)
          go_simp
          obtain ⟨w4, e4, hE4, ht4⟩ := cU _ hH.2.2.2.2
          rw [e4]
          go_simp
          refine hK.out _ _ ?_
          clear hK
          refine wpSeqG_done ?_
          refine NoPanic.normal ?_
          obtain ⟨hkk, hlen, hDA, hDH, pap, hR, hsec, hr, hl⟩ := HK.out
          obtain ⟨hS, bwr⟩ := HS.out
          have zx := HZx.out
          have ob := obj_new Wx.drew (.cells #[.int .i64 (i : Int), .slice vo vn vc, .int .u32 0, .int .i32 0, .int .u32 0, .pointer none] 125)
          replace ob : (Wx.drew.alloc (.cells #[.int .i64 (i : Int), .slice vo vn vc, .int .u32 0, .int .i32 0, .int .u32 0, .pointer none] 125)).heap[Wx.heap.size]? = _ := ob
          have gA := ht4.grown
          have gN : G (fun k => k = mt) wl w4 := ((qx.g (fun k => k = mt)).trans ((((B.refl Wx).drew).alloc _ _).g _)).grown gA (fun k hk => .inl (Option.some.inj hk).symm)
          have zt : Wx.heap.size ≠ mt := by omega
          have hz9 : Wx.heap.size < (Wx.drew.alloc (.cells #[.int .i64 (i : Int), .slice vo vn vc, .int .u32 0, .int .i32 0, .int .u32 0, .pointer none] 125)).heap.size := obj_lt ob
          have ob4 := (gA.block Wx.heap.size hz9 (fun e => zt (Option.some.inj e))).trans ob
          obtain ⟨hA4, hH4⟩ := th_put (b := Wx.heap.size) hDx.isMap hlen hDA hDH pap
          have hTM : ThMap w4 mt (((d.ts.take i).map (·.n)) ++ [N]) (((X.drop d.ws.length).map (·.b)) ++ [Wx.heap.size]) := ⟨_, by rw [List.length_append, hkk]; exact hE4, hE4.isMap, hA4, hH4⟩
          have hgs4 := gA.size
          have hN := hS.addT (r := ⟨N, RX, RY, RZ, RL⟩) hr (by omega) (by omega) gN (Nat.lt_of_lt_of_le hz9 hgs4) (by omega) (by omega) (by omega) ob4 (gN.held hsec (fun k hk1 hk2 hk3 => by omega)) hR hTM
          have HN := Lib.hid (And.intro hN hl)
          clear hN hTM hA4 hH4 ob4 hz9 gN gA ob hS bwr hDA hDH pap hR hsec hr hkk HK HS hE4 ht4 e4 hH cU hDx hgs4
          go_wp2
          go_roundw
          case rel => exact ⟨i + 1, _, by have := HN.out.2; omega, by go_num, HN.out.1⟩
          case measure => have := HN.out.2; simp [intOf]; omega
        · have hlB : decide ((i : Int) < (d.ts.length : Int)) = false := decide_eq_false (by omega)
          have hlN : decide (i < d.ts.length) = false := decide_eq_false hl
          obtain rfl : i = d.ts.length := by omega
          have hN := hS
          obtain ⟨Xe, hXe⟩ : ∃ Xe : List Th, X = Xe := ⟨_, rfl⟩
          have hlen := hN.len
          have t1 : X.take d.ws.length ++ X.drop d.ws.length = X := List.take_append_drop _ _
          have hBM : BoardM ⟨b, lo, hh, c, bm, mw, mw, mt, wl.heap.size, .slice o1 d.ws.length c1, .slice o2 d.ts.length c2, .slice o3 d.fs.length c3, d, (X.take d.ws.length).map (·.b), (X.drop d.ws.length).map (·.b)⟩ wl 0 [] X := by
            have hgsz := hN.g.size
            refine ⟨oBr, ?_, hr, ?_, ?_, ?_, (show lo ≤ hh by omega), (show hh ≤ bm by omega), (show mw ≤ mw by omega), (show mw < mt by omega), (show mt < b by omega), (show b < wl.heap.size by omega), Nat.le_refl _,
              (show X.map (·.b) = (X.take d.ws.length).map (·.b) ++ (X.drop d.ws.length).map (·.b) by rw [← List.map_append, t1]), fun x hx => hN.blt x hx, hN.bap, fun e he => (by cases he), hN.at_, fun i r hr' => hN.xw i r (List.getElem?_eq_some_iff.1 hr').1 hr', fun i r hr' => hN.xt i r (List.getElem?_eq_some_iff.1 hr').1 hr',
              (show ((X.take d.ws.length).map (·.b)).length = d.ws.length by simp; omega), (show ((X.drop d.ws.length).map (·.b)).length = d.ts.length by simp; omega), ?_, Nat.le_refl _⟩
            · have := HO.held.keepB bwr
              rw [hh'] at this
              exact this
            · exact CacheM.apartG HC.out hN.g (fun i hi => by
                have hi' : i = mw ∨ i = mt := hi
                have h1 : i ≠ c := by omega
                have h2 : i ≠ bm := by omega
                exact ⟨h1, h2, fun e he => by cases he⟩)
            · have := hN.wm
              rw [List.take_of_length_le (Nat.le_refl _)] at this
              exact this
            · have := hN.tm
              rw [List.take_of_length_le (Nat.le_refl _)] at this
              exact this
            · rw [List.filter_eq_nil_iff.2 (fun x hx => by rw [hN.nil x hx]; simp)]
              rfl
          have hBW := b12.trans bwr
          have HZ := Lib.hid (And.intro hBM hBW)
          clear hBM hN hS hXe
          go_wp2
          go_ret2
          refine ⟨_, ?_, ?_, ⟨X, HZ.out.1⟩, hwlo, rfl, HZ.out.2⟩
          · rfl
          · rfl
end Go.Proofs.Ytnmcgleanpdlmaa
