/-
 Contracts and what they rest on.
-/
import Derived.Test.YtglniapfnhedoaaGreatDoorChecked
import Derived.Lib.Hide
import Derived.KernelRfl
import Derived.Lib.ConvBytes
import Derived.Maps.OwnSet
import Derived.Maps.OwnOps
import Derived.WalkSpells
import Derived.DeepKeys4
import Derived.Test.YtglniapfnhedoaaGreatDoorY6
import Derived.Test.YtglniapfnhedoaaGreatDoorY9
namespace Go.Proofs.YtglniapfnhedoaaGreatDoor
open Go.RowKit
set_option linter.unusedVariables false
theorem at_name : ∀ (ws : List Wr) (k : Int) (n : ByteArray) (r c : Int), atW ws k = some (n, r, c) → ∃ v ∈ ws, v.n = n
 | [], k, n, r, c, h => by cases h
 | w :: ws, k, n, r, c, h => by
  rw [atW] at h
  by_cases h0 : k < 0
  ·rw [if_pos h0] at h; cases h
  ·rw [if_neg h0] at h
   by_cases h1 : k < w.x * w.y
   ·rw [if_pos h1] at h
    simp only [Option.some.injEq, Prod.mk.injEq] at h
    exact ⟨w, List.mem_cons_self .., h.1⟩
   ·rw [if_neg h1] at h
    obtain ⟨v, hv, e⟩ := at_name ws _ n r c h
    exact ⟨v, List.mem_cons_of_mem _ hv, e⟩
def namesApart : List Wr → Prop
 | [] => True
 | w :: ws => (∀ v ∈ ws, (w.n.toList == v.n.toList) = false) ∧ namesApart ws
theorem at_index : ∀ (ws : List Wr) (K k : Int) (n : ByteArray) (r c : Int), (∀ x ∈ ws, wareB x) → namesApart ws → atW ws k = some (n, r, c) → indexW ws K n r c = some (K + k)
 | [], K, k, n, r, c, _, _, h => by cases h
 | w :: ws, K, k, n, r, c, hb, ha, h => by
  obtain ⟨b1, b2, b3, b4⟩ := hb w (List.mem_cons_self ..)
  rw [atW] at h
  by_cases h0 : k < 0
  ·rw [if_pos h0] at h; cases h
  ·rw [if_neg h0] at h
   by_cases h1 : k < w.x * w.y
   ·rw [if_pos h1] at h
    simp only [Option.some.injEq, Prod.mk.injEq] at h
    obtain ⟨rfl, rfl, rfl⟩ := h
    have e1 := Int.emod_nonneg k (by omega : w.y ≠ 0)
    have e2 := Int.emod_lt_of_pos k (by omega : 0 < w.y)
    have e3 := Int.ediv_nonneg (by omega : 0 ≤ k) (by omega : 0 ≤ w.y)
    have e4 : k / w.y < w.x := Int.ediv_lt_of_lt_mul (by omega) (by rw [Int.mul_comm] at h1; rw [Int.mul_comm]; exact h1)
    have e5 := Int.mul_ediv_add_emod k w.y
    rw [indexW, if_pos (by simp), if_pos ⟨e3, e4, e1, e2⟩]
    congr 1
    rw [Int.mul_comm (k / w.y) w.y]
    omega
   ·rw [if_neg h1] at h
    obtain ⟨v, hv, e⟩ := at_name ws _ n r c h
    have hne := ha.1 v hv
    rw [e] at hne
    rw [indexW, if_neg (by rw [hne]; decide)]
    have := at_index ws (K + w.x * w.y) (k - w.x * w.y) n r c (fun x hx => hb x (List.mem_cons_of_mem _ hx)) ha.2 h
    rw [this]
    congr 1
    omega
theorem fills_mem (ws : List Wr) : ∀ (l : List Nat) (i : Nat) (f : Fl), f ∈ fillsF ws i l → ∃ k : Nat, i ≤ k ∧ atW ws (k : Int) = some (f.n, f.r, f.c) ∧ 60000 ≤ f.v ∧ f.v < 260000
 | [], i, f, h => by simp [fillsF] at h
 | x :: l, i, f, h => by
  have up : ∀ f, f ∈ fillsF ws (i + 1) l → ∃ k : Nat, i ≤ k ∧ atW ws (k : Int) = some (f.n, f.r, f.c) ∧ 60000 ≤ f.v ∧ f.v < 260000 := fun f hf => by
   obtain ⟨k, h1, h2⟩ := fills_mem ws l (i + 1) f hf
   exact ⟨k, by omega, h2⟩
  unfold fillsF at h
  cases hat : atW ws (i : Int) with
  | none => rw [hat] at h; exact up f h
  | some p =>
   obtain ⟨n, r, c⟩ := p
   rw [hat] at h
   dsimp only at h
   by_cases hx : 0 < x % 6
   ·rw [if_pos hx] at h
    rcases List.mem_cons.1 h with rfl | h
    ·exact ⟨i, Nat.le_refl _, hat, by simp only; omega, by simp only; omega⟩
    ·exact up f h
   ·rw [if_neg hx] at h
    exact up f h
theorem index_same : ∀ (ws : List Wr) (K : Int) (n m : ByteArray) (r c : Int), n.toList = m.toList → indexW ws K n r c = indexW ws K m r c
 | [], _, _, _, _, _, _ => rfl
 | w :: ws, K, n, m, r, c, h => by rw [indexW, indexW, h, index_same ws _ n m r c h]
theorem fills_apart (ws : List Wr) (hb : ∀ x ∈ ws, wareB x) (ha : namesApart ws) : ∀ (l : List Nat) (i : Nat), (∀ j f, (fillsF ws i l)[j]? = some f → filledW ((fillsF ws i l).take j) f.n f.r f.c = false)
 | [], i => fun j f h => by simp [fillsF] at h
 | x :: l, i => by
  have ih := fills_apart ws hb ha l (i + 1)
  have hm := fills_mem ws l (i + 1)
  unfold fillsF
  cases hat : atW ws (i : Int) with
  | none => exact ih
  | some p =>
   obtain ⟨n, r, c⟩ := p
   dsimp only
   by_cases hx : 0 < x % 6
   ·rw [if_pos hx]
    intro j f hj
    cases j with
    | zero => rfl
    | succ j =>
     have hj' : (fillsF ws (i + 1) l)[j]? = some f := by simpa using hj
     have h1 := ih j f hj'
     obtain ⟨k, hk, hak, _⟩ := hm f (List.mem_of_getElem? hj')
     rw [List.take_succ_cons]
     unfold filledW at h1 ⊢
     rw [List.any_cons, h1, Bool.or_false]
     cases hh : ((n.toList == f.n.toList) && decide (r = f.r) && decide (c = f.c))
     ·rfl
     ·exfalso
      simp only [Bool.and_eq_true, decide_eq_true_eq, beq_iff_eq] at hh
      obtain ⟨⟨e1, rfl⟩, rfl⟩ := hh
      have i1 := at_index ws 0 _ _ _ _ hb ha hat
      have i2 := at_index ws 0 _ _ _ _ hb ha hak
      rw [index_same ws 0 n f.n _ _ e1] at i1
      rw [i1] at i2
      simp only [Option.some.injEq] at i2
      omega
   ·rw [if_neg hx]
    exact ih
theorem seat_names (a b c d : Int) : namesApart (wares7 a b c d) := by
 unfold wares7 namesApart namesApart namesApart
 refine ⟨fun v hv => ?_, fun v hv => by simp at hv, trivial⟩
 rcases List.mem_singleton.1 hv with rfl
 unfold namePlate nameTube
 rw [toList_data, toList_data]
 rfl
theorem seat_wares {a b c d : Int} (ha : 0 ≤ a ∧ a ≤ 255) (hb : 0 ≤ b ∧ b ≤ 255) (hc : 0 ≤ c ∧ c ≤ 255) (hd : 0 ≤ d ∧ d ≤ 255) : ∀ x ∈ wares7 a b c d, wareB x := by
 intro x hx
 unfold wares7 at hx
 simp only [List.mem_cons, List.not_mem_nil, or_false] at hx
 rcases hx with rfl | rfl
 ·unfold wareB; simp only; omega
 ·unfold wareB; simp only; omega
theorem nameS_plate : nameS namePlate = true := by kernel_rfl
theorem nameS_tube : nameS nameTube = true := by kernel_rfl
theorem nameS_t1 : nameS nameT1 = true := by kernel_rfl
theorem nameS_t2 : nameS nameT2 = true := by kernel_rfl
theorem seat_right {a b c d : Int} (ha : 0 ≤ a ∧ a ≤ 255) (hb : 0 ≤ b ∧ b ≤ 255) (hc : 0 ≤ c ∧ c ≤ 255) (hd : 0 ≤ d ∧ d ≤ 255) (l : List Nat) : rightD (seatD a b c d l) = true := by
 have hw := seat_wares ha hb hc hd
 have hn := seat_names a b c d
 have hf : fillsOk (wares7 a b c d) (fillsF (wares7 a b c d) 0 l) = true := by
  unfold fillsOk
  rw [List.all_eq_true]
  intro i hi
  have hlt := List.mem_range.1 hi
  have hF := List.getElem?_eq_getElem hlt
  rw [hF]
  generalize (fillsF (wares7 a b c d) 0 l)[i] = f at hF
  obtain ⟨k, _, hk, v1, v2⟩ := fills_mem _ l 0 f (List.mem_of_getElem? hF)
  have hi2 := at_index _ 0 _ _ _ _ hw hn hk
  have hap := fills_apart _ hw hn l 0 i f hF
  simp only [Bool.and_eq_true, inB_iff, Bool.not_eq_true']
  refine ⟨⟨?_, by omega, by omega⟩, hap⟩
  unfold hasW
  rw [hi2]
  rfl
 unfold rightD seatD
 simp only [Bool.and_eq_true, decide_eq_true_eq]
 refine ⟨⟨⟨⟨by unfold wares7; simp, ?_⟩, ?_⟩, ?_⟩, hf⟩
 ·unfold tips7; split <;> simp
 ·rw [apartW_iff]
  intro i w hw'
  unfold wares7 at hw' ⊢
  match i with
  | 0 =>
   obtain rfl : _ = w := by simpa using hw'
   refine ⟨?_, rfl⟩
   unfold wareOk
   simp only [nameS_plate, shape_right, Bool.and_true, Bool.true_and, Bool.and_eq_true, inB_iff]
   omega
  | 1 =>
   obtain rfl : _ = w := by simpa using hw'
   refine ⟨?_, ?_⟩
   ·unfold wareOk
    simp only [nameS_tube, shape_right, Bool.and_true, Bool.true_and, Bool.and_eq_true, inB_iff]
    omega
   ·unfold namedW namePlate nameTube
    simp only [List.take_succ_cons, List.take_zero, List.any_cons, List.any_nil, Bool.or_false]
    rw [toList_data, toList_data]
    rfl
  | n + 2 => simp at hw'
 ·rw [apartW_iff]
  intro i w hw'
  have ok1 : tipOk ⟨nameT1, cap7 c, filt7 d, err7 d, outerOf (c % 3).toNat⟩ = true := by
   unfold tipOk
   simp only [nameS_t1, outer_right, Bool.and_true, Bool.true_and, Bool.and_eq_true, inB_iff]
   unfold cap7 filt7 err7
   refine ⟨⟨?_, ?_⟩, ?_⟩ <;> (repeat' split) <;> omega
  have ok2 : tipOk ⟨nameT2, 50000, 40000, d % 30, outerOf (d % 3).toNat⟩ = true := by
   unfold tipOk
   simp only [nameS_t2, outer_right, Bool.and_true, Bool.true_and, Bool.and_eq_true, inB_iff]
   omega
  unfold tips7 at hw' ⊢
  match i with
  | 0 =>
   obtain rfl : _ = w := by simpa using hw'
   exact ⟨ok1, rfl⟩
  | 1 =>
   by_cases h5 : d % 5 = 0
   ·rw [if_pos h5] at hw'; simp at hw'
   ·rw [if_neg h5] at hw' ⊢
    obtain rfl : _ = w := by simpa using hw'
    refine ⟨ok2, ?_⟩
    unfold namedW nameT1 nameT2
    simp only [List.take_succ_cons, List.take_zero, List.any_cons, List.any_nil, Bool.or_false]
    rw [toList_data, toList_data]
    rfl
  | n + 2 =>
   by_cases h5 : d % 5 = 0
   ·rw [if_pos h5] at hw'; simp at hw'
   ·rw [if_neg h5] at hw'; simp at hw'
end Go.Proofs.YtglniapfnhedoaaGreatDoor
namespace Go.Proofs.YtglniapfnhedoaaGreatDoor
open Go.RowKit
theorem own_full {w : World} {base : Nat} {e : TypeId} {size n c : Nat} {o : Option Addr} {xs : List Value} (h : w.ownsRow base e size (.slice o n c) n xs) (hn : 0 < n) : ∃ g, o = some ⟨g, 0, none⟩ ∧ base ≤ g ∧ n ≤ c ∧ c ≤ maxLen := by
 rcases h.2 with ⟨h0, _⟩ | ⟨g, cap, cur, h0, hb, _, hnc, hm, _⟩
 ·simp only [Value.slice.injEq] at h0; omega
 ·simp only [Value.slice.injEq] at h0
  obtain ⟨rfl, _, rfl⟩ := h0
  exact ⟨g, rfl, hb, hnc, hm⟩
end Go.Proofs.YtglniapfnhedoaaGreatDoor
namespace Go.Proofs.YtglniapfnhedoaaGreatDoor
open Go.RowKit
theorem r8lower_any (n : Nat) (w : World) : Calls Tryz.prog 60 #[.int .u8 (n : Int)] w fun e w' => e = .returned (.bool (lowN n)) ∧ w = w' := by
 unfold lowN
 by_cases c : 97 ≤ n
 ·have cB : decide ((97 : Int) ≤ (n : Int)) = true := decide_eq_true (by omega)
  have e2 : decide (n ≤ 122) = decide ((n : Int) ≤ 122) := decide_eq_decide.2 (by omega)
  rw [decide_eq_true c, e2, Bool.true_and]
  go_enter Tryz.func60, Tryz.ntmps60
  go_wp2
  go_ret
  exact ⟨rfl, rfl⟩
 ·have cB : decide ((97 : Int) ≤ (n : Int)) = false := decide_eq_false (by omega)
  rw [decide_eq_false c, Bool.false_and]
  go_enter Tryz.func60, Tryz.ntmps60
  go_wp2
  go_ret
  exact ⟨rfl, rfl⟩
theorem r8digit_any (n : Nat) (w : World) : Calls Tryz.prog 61 #[.int .u8 (n : Int)] w fun e w' => e = .returned (.bool (digN n)) ∧ w = w' := by
 unfold digN
 by_cases c : 48 ≤ n
 ·have cB : decide ((48 : Int) ≤ (n : Int)) = true := decide_eq_true (by omega)
  have e2 : decide (n ≤ 57) = decide ((n : Int) ≤ 57) := decide_eq_decide.2 (by omega)
  rw [decide_eq_true c, e2, Bool.true_and]
  go_enter Tryz.func61, Tryz.ntmps61
  go_wp2
  go_ret
  exact ⟨rfl, rfl⟩
 ·have cB : decide ((48 : Int) ≤ (n : Int)) = false := decide_eq_false (by omega)
  rw [decide_eq_false c, Bool.false_and]
  go_enter Tryz.func61, Tryz.ntmps61
  go_wp2
  go_ret
  exact ⟨rfl, rfl⟩
theorem r8name_any (s : ByteArray) (w : World) : Calls Tryz.prog 31 #[.string s] w fun e w' => e = .returned (.bool (nameS s)) ∧ w = w' := by
 by_cases h1 : s.size < 1
 ·have h1B : decide ((s.size : Int) < 1) = true := decide_eq_true (by omega)
  rw [nameS_size (.inl h1)]
  clear h1
  go_enter Tryz.func31, Tryz.ntmps31
  go_wp2
  go_ret
  exact ⟨rfl, rfl⟩
 have h1B : decide ((s.size : Int) < 1) = false := decide_eq_false (by omega)
 by_cases h2 : 16 < s.size
 ·have h2B : decide ((16 : Int) < (s.size : Int)) = true := decide_eq_true (by omega)
  rw [nameS_size (.inr h2)]
  clear h1 h2
  go_enter Tryz.func31, Tryz.ntmps31
  go_wp2
  go_ret
  exact ⟨rfl, rfl⟩
 have h2B : decide ((16 : Int) < (s.size : Int)) = false := decide_eq_false (by omega)
 have hz : (0 : Int) < (s.size : Int) := by omega
 have hg0 : ∀ h : 0 < s.size, (s[0]'h).toNat = byteAt s 0 := fun h => byteAt_get s 0 h
 have c0 := fun w => r8lower_any (byteAt s 0) w
 cases h3 : lowN (byteAt s 0)
 ·rw [nameS_first h3]
  rw [h3] at c0
  generalize byteAt s 0 = b0 at *
  clear h3
  go_enter Tryz.func31, Tryz.ntmps31
  go_wp2_with fail
  refine (c0 _).mono ?_
  rintro e w1 ⟨rfl, rfl⟩
  go_wp2
  go_ret
  exact ⟨rfl, rfl⟩
 rw [h3] at c0
 have hgood := Lib.hid (fun h => nameS_good (s := s) (by omega) (by omega) h3 h)
 have hbad := @nameS_bad s
 generalize byteAt s 0 = b0 at *
 generalize nameS s = R at *
 clear h3 h1
 go_enter Tryz.func31, Tryz.ntmps31
 go_wp2_with fail
 refine (c0 _).mono ?_
 rintro e w1 ⟨rfl, rfl⟩
 clear c0 hg0
 go_wp2
 go_loopw [3] (fun i wr => ∃ k : Nat, k ≤ s.size ∧ i = .int .i64 k ∧ (∀ j, j < k → (lowN (byteAt s j) || digN (byteAt s j)) = true) ∧ w = wr) (fun i _ => s.size + 1 - (intOf i).toNat)
 case atStart => exact ⟨0, Nat.zero_le _, rfl, fun j hj => by omega, rfl⟩
 case round =>
  obtain ⟨k, hk, rfl, hall, rfl⟩ := hrel
  by_cases hl : k < s.size
  ·have hlB : decide ((k : Int) < (s.size : Int)) = true := decide_eq_true (by omega)
   have hlI : (k : Int) < (s.size : Int) := by omega
   have hkB : (0 : Int) ≤ (k : Int) := by omega
   have wk1 : IntKind.i64.wrap ((k : Int) + 1) = (k : Int) + 1 := by rw [IntKind.wrap_i64]; omega
   have hg : ∀ h : k < s.size, (s[k]'h).toNat = byteAt s k := fun h => byteAt_get s k h
   have c1 := fun w => r8lower_any (byteAt s k) w
   have c2 := fun w => r8digit_any (byteAt s k) w
   have hb := hbad hl
   have hnext : (lowN (byteAt s k) || digN (byteAt s k)) = true → ∀ j, j < k + 1 → (lowN (byteAt s j) || digN (byteAt s j)) = true := fun h j hj => by
    by_cases c : j = k
    ·subst c; exact h
    ·exact hall j (by omega)
   clear hall
   generalize byteAt s k = b at *
   cases h4 : lowN b
   ·cases h5 : digN b
    ·rw [h4, h5] at hb
     obtain rfl := hb rfl
     rw [h4] at c1
     rw [h5] at c2
     clear hnext h4 h5
     go_wp2_with fail
     refine (c1 _).mono ?_
     rintro e w1 ⟨rfl, rfl⟩
     go_wp2_with fail
     refine (c2 _).mono ?_
     rintro e w1 ⟨rfl, rfl⟩
     go_wp2
     go_ret
     exact ⟨rfl, rfl⟩
    ·have HA := Lib.hid (hnext (by rw [h4, h5]; rfl))
     rw [h4] at c1
     rw [h5] at c2
     clear hnext h4 h5 hb
     go_wp2_with fail
     refine (c1 _).mono ?_
     rintro e w1 ⟨rfl, rfl⟩
     go_wp2_with fail
     refine (c2 _).mono ?_
     rintro e w1 ⟨rfl, rfl⟩
     go_wp2
     go_roundw
     case rel => exact ⟨k + 1, by omega, by go_num, HA.out, trivial⟩
     case measure => simp [intOf]; omega
   ·have HA := Lib.hid (hnext (by rw [h4]; rfl))
    rw [h4] at c1
    clear hnext h4 hb c2
    go_wp2_with fail
    refine (c1 _).mono ?_
    rintro e w1 ⟨rfl, rfl⟩
    go_wp2
    go_roundw
    case rel => exact ⟨k + 1, by omega, by go_num, HA.out, trivial⟩
    case measure => simp [intOf]; omega
  ·have hlB : decide ((k : Int) < (s.size : Int)) = false := decide_eq_false (by omega)
   have HR := Lib.hid (hgood.out (fun i hi => hall i (by omega)))
   clear hall hgood hbad
   go_wp2
   go_ret
   exact ⟨by rw [HR.out]; rfl, rfl⟩
end Go.Proofs.YtglniapfnhedoaaGreatDoor
namespace Go.Proofs.YtglniapfnhedoaaGreatDoor
open Go.RowKit
theorem kind_any (n : Nat) (w : World) : Calls Tryz.prog 68 #[.int .u8 (n : Int)] w fun e w' => e = .returned (.int .i64 ((kindN n : Nat) : Int)) ∧ w = w' := by
 have cs : (n < 9) ∨ (n = 9) ∨ (n = 10) ∨ (11 ≤ n ∧ n ≤ 31) ∨ (n = 32) ∨ (33 ≤ n ∧ n ≤ 34) ∨ (n = 35) ∨ (36 ≤ n ∧ n ≤ 45) ∨ (n = 46) ∨ (n = 47) ∨ (48 ≤ n ∧ n ≤ 57) ∨ (58 ≤ n ∧ n ≤ 64) ∨ (65 ≤ n ∧ n ≤ 90) ∨ (91 ≤ n ∧ n ≤ 96) ∨ (97 ≤ n ∧ n ≤ 122) ∨ (122 < n) := by omega
 rcases cs with c | c | c | c | c | c | c | c | c | c | c | c | c | c | c | c
 ·have hk : kindN n = 0 := by unfold kindN lowN capN digN; simp only [Bool.and_eq_true, decide_eq_true_eq]; repeat (first | rw [if_pos (by omega)] | rw [if_neg (by omega)])
  rw [hk]
  have g97 : decide ((97 : Int) ≤ (n : Int)) = false := decide_eq_false (by omega)
  have g65 : decide ((65 : Int) ≤ (n : Int)) = false := decide_eq_false (by omega)
  have g48 : decide ((48 : Int) ≤ (n : Int)) = false := decide_eq_false (by omega)
  have l122 : decide ((n : Int) ≤ 122) = true := decide_eq_true (by omega)
  have l90 : decide ((n : Int) ≤ 90) = true := decide_eq_true (by omega)
  have l57 : decide ((n : Int) ≤ 57) = true := decide_eq_true (by omega)
  have e46 : ((n : Int) == 46) = false := by simp; omega
  have e32 : ((n : Int) == 32) = false := by simp; omega
  have e9 : ((n : Int) == 9) = false := by simp; omega
  have e10 : ((n : Int) == 10) = false := by simp; omega
  have e35 : ((n : Int) == 35) = false := by simp; omega
  clear c hk
  go_enter Tryz.func68, Tryz.ntmps68
  go_wp2
  go_ret
  exact ⟨rfl, rfl⟩
 ·have hk : kindN n = 5 := by unfold kindN lowN capN digN; simp only [Bool.and_eq_true, decide_eq_true_eq]; repeat (first | rw [if_pos (by omega)] | rw [if_neg (by omega)])
  rw [hk]
  have g97 : decide ((97 : Int) ≤ (n : Int)) = false := decide_eq_false (by omega)
  have g65 : decide ((65 : Int) ≤ (n : Int)) = false := decide_eq_false (by omega)
  have g48 : decide ((48 : Int) ≤ (n : Int)) = false := decide_eq_false (by omega)
  have l122 : decide ((n : Int) ≤ 122) = true := decide_eq_true (by omega)
  have l90 : decide ((n : Int) ≤ 90) = true := decide_eq_true (by omega)
  have l57 : decide ((n : Int) ≤ 57) = true := decide_eq_true (by omega)
  have e46 : ((n : Int) == 46) = false := by simp; omega
  have e32 : ((n : Int) == 32) = false := by simp; omega
  have e9 : ((n : Int) == 9) = true := by simp; omega
  have e10 : ((n : Int) == 10) = false := by simp; omega
  have e35 : ((n : Int) == 35) = false := by simp; omega
  clear c hk
  go_enter Tryz.func68, Tryz.ntmps68
  go_wp2
  go_ret
  exact ⟨rfl, rfl⟩
 ·have hk : kindN n = 6 := by unfold kindN lowN capN digN; simp only [Bool.and_eq_true, decide_eq_true_eq]; repeat (first | rw [if_pos (by omega)] | rw [if_neg (by omega)])
  rw [hk]
  have g97 : decide ((97 : Int) ≤ (n : Int)) = false := decide_eq_false (by omega)
  have g65 : decide ((65 : Int) ≤ (n : Int)) = false := decide_eq_false (by omega)
  have g48 : decide ((48 : Int) ≤ (n : Int)) = false := decide_eq_false (by omega)
  have l122 : decide ((n : Int) ≤ 122) = true := decide_eq_true (by omega)
  have l90 : decide ((n : Int) ≤ 90) = true := decide_eq_true (by omega)
  have l57 : decide ((n : Int) ≤ 57) = true := decide_eq_true (by omega)
  have e46 : ((n : Int) == 46) = false := by simp; omega
  have e32 : ((n : Int) == 32) = false := by simp; omega
  have e9 : ((n : Int) == 9) = false := by simp; omega
  have e10 : ((n : Int) == 10) = true := by simp; omega
  have e35 : ((n : Int) == 35) = false := by simp; omega
  clear c hk
  go_enter Tryz.func68, Tryz.ntmps68
  go_wp2
  go_ret
  exact ⟨rfl, rfl⟩
 ·have hk : kindN n = 0 := by unfold kindN lowN capN digN; simp only [Bool.and_eq_true, decide_eq_true_eq]; repeat (first | rw [if_pos (by omega)] | rw [if_neg (by omega)])
  rw [hk]
  have g97 : decide ((97 : Int) ≤ (n : Int)) = false := decide_eq_false (by omega)
  have g65 : decide ((65 : Int) ≤ (n : Int)) = false := decide_eq_false (by omega)
  have g48 : decide ((48 : Int) ≤ (n : Int)) = false := decide_eq_false (by omega)
  have l122 : decide ((n : Int) ≤ 122) = true := decide_eq_true (by omega)
  have l90 : decide ((n : Int) ≤ 90) = true := decide_eq_true (by omega)
  have l57 : decide ((n : Int) ≤ 57) = true := decide_eq_true (by omega)
  have e46 : ((n : Int) == 46) = false := by simp; omega
  have e32 : ((n : Int) == 32) = false := by simp; omega
  have e9 : ((n : Int) == 9) = false := by simp; omega
  have e10 : ((n : Int) == 10) = false := by simp; omega
  have e35 : ((n : Int) == 35) = false := by simp; omega
  clear c hk
  go_enter Tryz.func68, Tryz.ntmps68
  go_wp2
  go_ret
  exact ⟨rfl, rfl⟩
 ·have hk : kindN n = 5 := by unfold kindN lowN capN digN; simp only [Bool.and_eq_true, decide_eq_true_eq]; repeat (first | rw [if_pos (by omega)] | rw [if_neg (by omega)])
  rw [hk]
  have g97 : decide ((97 : Int) ≤ (n : Int)) = false := decide_eq_false (by omega)
  have g65 : decide ((65 : Int) ≤ (n : Int)) = false := decide_eq_false (by omega)
  have g48 : decide ((48 : Int) ≤ (n : Int)) = false := decide_eq_false (by omega)
  have l122 : decide ((n : Int) ≤ 122) = true := decide_eq_true (by omega)
  have l90 : decide ((n : Int) ≤ 90) = true := decide_eq_true (by omega)
  have l57 : decide ((n : Int) ≤ 57) = true := decide_eq_true (by omega)
  have e46 : ((n : Int) == 46) = false := by simp; omega
  have e32 : ((n : Int) == 32) = true := by simp; omega
  have e9 : ((n : Int) == 9) = false := by simp; omega
  have e10 : ((n : Int) == 10) = false := by simp; omega
  have e35 : ((n : Int) == 35) = false := by simp; omega
  clear c hk
  go_enter Tryz.func68, Tryz.ntmps68
  go_wp2
  go_ret
  exact ⟨rfl, rfl⟩
 ·have hk : kindN n = 0 := by unfold kindN lowN capN digN; simp only [Bool.and_eq_true, decide_eq_true_eq]; repeat (first | rw [if_pos (by omega)] | rw [if_neg (by omega)])
  rw [hk]
  have g97 : decide ((97 : Int) ≤ (n : Int)) = false := decide_eq_false (by omega)
  have g65 : decide ((65 : Int) ≤ (n : Int)) = false := decide_eq_false (by omega)
  have g48 : decide ((48 : Int) ≤ (n : Int)) = false := decide_eq_false (by omega)
  have l122 : decide ((n : Int) ≤ 122) = true := decide_eq_true (by omega)
  have l90 : decide ((n : Int) ≤ 90) = true := decide_eq_true (by omega)
  have l57 : decide ((n : Int) ≤ 57) = true := decide_eq_true (by omega)
  have e46 : ((n : Int) == 46) = false := by simp; omega
  have e32 : ((n : Int) == 32) = false := by simp; omega
  have e9 : ((n : Int) == 9) = false := by simp; omega
  have e10 : ((n : Int) == 10) = false := by simp; omega
  have e35 : ((n : Int) == 35) = false := by simp; omega
  clear c hk
  go_enter Tryz.func68, Tryz.ntmps68
  go_wp2
  go_ret
  exact ⟨rfl, rfl⟩
 ·have hk : kindN n = 7 := by unfold kindN lowN capN digN; simp only [Bool.and_eq_true, decide_eq_true_eq]; repeat (first | rw [if_pos (by omega)] | rw [if_neg (by omega)])
  rw [hk]
  have g97 : decide ((97 : Int) ≤ (n : Int)) = false := decide_eq_false (by omega)
  have g65 : decide ((65 : Int) ≤ (n : Int)) = false := decide_eq_false (by omega)
  have g48 : decide ((48 : Int) ≤ (n : Int)) = false := decide_eq_false (by omega)
  have l122 : decide ((n : Int) ≤ 122) = true := decide_eq_true (by omega)
  have l90 : decide ((n : Int) ≤ 90) = true := decide_eq_true (by omega)
  have l57 : decide ((n : Int) ≤ 57) = true := decide_eq_true (by omega)
  have e46 : ((n : Int) == 46) = false := by simp; omega
  have e32 : ((n : Int) == 32) = false := by simp; omega
  have e9 : ((n : Int) == 9) = false := by simp; omega
  have e10 : ((n : Int) == 10) = false := by simp; omega
  have e35 : ((n : Int) == 35) = true := by simp; omega
  clear c hk
  go_enter Tryz.func68, Tryz.ntmps68
  go_wp2
  go_ret
  exact ⟨rfl, rfl⟩
 ·have hk : kindN n = 0 := by unfold kindN lowN capN digN; simp only [Bool.and_eq_true, decide_eq_true_eq]; repeat (first | rw [if_pos (by omega)] | rw [if_neg (by omega)])
  rw [hk]
  have g97 : decide ((97 : Int) ≤ (n : Int)) = false := decide_eq_false (by omega)
  have g65 : decide ((65 : Int) ≤ (n : Int)) = false := decide_eq_false (by omega)
  have g48 : decide ((48 : Int) ≤ (n : Int)) = false := decide_eq_false (by omega)
  have l122 : decide ((n : Int) ≤ 122) = true := decide_eq_true (by omega)
  have l90 : decide ((n : Int) ≤ 90) = true := decide_eq_true (by omega)
  have l57 : decide ((n : Int) ≤ 57) = true := decide_eq_true (by omega)
  have e46 : ((n : Int) == 46) = false := by simp; omega
  have e32 : ((n : Int) == 32) = false := by simp; omega
  have e9 : ((n : Int) == 9) = false := by simp; omega
  have e10 : ((n : Int) == 10) = false := by simp; omega
  have e35 : ((n : Int) == 35) = false := by simp; omega
  clear c hk
  go_enter Tryz.func68, Tryz.ntmps68
  go_wp2
  go_ret
  exact ⟨rfl, rfl⟩
 ·have hk : kindN n = 4 := by unfold kindN lowN capN digN; simp only [Bool.and_eq_true, decide_eq_true_eq]; repeat (first | rw [if_pos (by omega)] | rw [if_neg (by omega)])
  rw [hk]
  have g97 : decide ((97 : Int) ≤ (n : Int)) = false := decide_eq_false (by omega)
  have g65 : decide ((65 : Int) ≤ (n : Int)) = false := decide_eq_false (by omega)
  have g48 : decide ((48 : Int) ≤ (n : Int)) = false := decide_eq_false (by omega)
  have l122 : decide ((n : Int) ≤ 122) = true := decide_eq_true (by omega)
  have l90 : decide ((n : Int) ≤ 90) = true := decide_eq_true (by omega)
  have l57 : decide ((n : Int) ≤ 57) = true := decide_eq_true (by omega)
  have e46 : ((n : Int) == 46) = true := by simp; omega
  have e32 : ((n : Int) == 32) = false := by simp; omega
  have e9 : ((n : Int) == 9) = false := by simp; omega
  have e10 : ((n : Int) == 10) = false := by simp; omega
  have e35 : ((n : Int) == 35) = false := by simp; omega
  clear c hk
  go_enter Tryz.func68, Tryz.ntmps68
  go_wp2
  go_ret
  exact ⟨rfl, rfl⟩
 ·have hk : kindN n = 0 := by unfold kindN lowN capN digN; simp only [Bool.and_eq_true, decide_eq_true_eq]; repeat (first | rw [if_pos (by omega)] | rw [if_neg (by omega)])
  rw [hk]
  have g97 : decide ((97 : Int) ≤ (n : Int)) = false := decide_eq_false (by omega)
  have g65 : decide ((65 : Int) ≤ (n : Int)) = false := decide_eq_false (by omega)
  have g48 : decide ((48 : Int) ≤ (n : Int)) = false := decide_eq_false (by omega)
  have l122 : decide ((n : Int) ≤ 122) = true := decide_eq_true (by omega)
  have l90 : decide ((n : Int) ≤ 90) = true := decide_eq_true (by omega)
  have l57 : decide ((n : Int) ≤ 57) = true := decide_eq_true (by omega)
  have e46 : ((n : Int) == 46) = false := by simp; omega
  have e32 : ((n : Int) == 32) = false := by simp; omega
  have e9 : ((n : Int) == 9) = false := by simp; omega
  have e10 : ((n : Int) == 10) = false := by simp; omega
  have e35 : ((n : Int) == 35) = false := by simp; omega
  clear c hk
  go_enter Tryz.func68, Tryz.ntmps68
  go_wp2
  go_ret
  exact ⟨rfl, rfl⟩
 ·have hk : kindN n = 3 := by unfold kindN lowN capN digN; simp only [Bool.and_eq_true, decide_eq_true_eq]; repeat (first | rw [if_pos (by omega)] | rw [if_neg (by omega)])
  rw [hk]
  have g97 : decide ((97 : Int) ≤ (n : Int)) = false := decide_eq_false (by omega)
  have g65 : decide ((65 : Int) ≤ (n : Int)) = false := decide_eq_false (by omega)
  have g48 : decide ((48 : Int) ≤ (n : Int)) = true := decide_eq_true (by omega)
  have l122 : decide ((n : Int) ≤ 122) = true := decide_eq_true (by omega)
  have l90 : decide ((n : Int) ≤ 90) = true := decide_eq_true (by omega)
  have l57 : decide ((n : Int) ≤ 57) = true := decide_eq_true (by omega)
  have e46 : ((n : Int) == 46) = false := by simp; omega
  have e32 : ((n : Int) == 32) = false := by simp; omega
  have e9 : ((n : Int) == 9) = false := by simp; omega
  have e10 : ((n : Int) == 10) = false := by simp; omega
  have e35 : ((n : Int) == 35) = false := by simp; omega
  clear c hk
  go_enter Tryz.func68, Tryz.ntmps68
  go_wp2
  go_ret
  exact ⟨rfl, rfl⟩
 ·have hk : kindN n = 0 := by unfold kindN lowN capN digN; simp only [Bool.and_eq_true, decide_eq_true_eq]; repeat (first | rw [if_pos (by omega)] | rw [if_neg (by omega)])
  rw [hk]
  have g97 : decide ((97 : Int) ≤ (n : Int)) = false := decide_eq_false (by omega)
  have g65 : decide ((65 : Int) ≤ (n : Int)) = false := decide_eq_false (by omega)
  have g48 : decide ((48 : Int) ≤ (n : Int)) = true := decide_eq_true (by omega)
  have l122 : decide ((n : Int) ≤ 122) = true := decide_eq_true (by omega)
  have l90 : decide ((n : Int) ≤ 90) = true := decide_eq_true (by omega)
  have l57 : decide ((n : Int) ≤ 57) = false := decide_eq_false (by omega)
  have e46 : ((n : Int) == 46) = false := by simp; omega
  have e32 : ((n : Int) == 32) = false := by simp; omega
  have e9 : ((n : Int) == 9) = false := by simp; omega
  have e10 : ((n : Int) == 10) = false := by simp; omega
  have e35 : ((n : Int) == 35) = false := by simp; omega
  clear c hk
  go_enter Tryz.func68, Tryz.ntmps68
  go_wp2
  go_ret
  exact ⟨rfl, rfl⟩
 ·have hk : kindN n = 2 := by unfold kindN lowN capN digN; simp only [Bool.and_eq_true, decide_eq_true_eq]; repeat (first | rw [if_pos (by omega)] | rw [if_neg (by omega)])
  rw [hk]
  have g97 : decide ((97 : Int) ≤ (n : Int)) = false := decide_eq_false (by omega)
  have g65 : decide ((65 : Int) ≤ (n : Int)) = true := decide_eq_true (by omega)
  have g48 : decide ((48 : Int) ≤ (n : Int)) = true := decide_eq_true (by omega)
  have l122 : decide ((n : Int) ≤ 122) = true := decide_eq_true (by omega)
  have l90 : decide ((n : Int) ≤ 90) = true := decide_eq_true (by omega)
  have l57 : decide ((n : Int) ≤ 57) = false := decide_eq_false (by omega)
  have e46 : ((n : Int) == 46) = false := by simp; omega
  have e32 : ((n : Int) == 32) = false := by simp; omega
  have e9 : ((n : Int) == 9) = false := by simp; omega
  have e10 : ((n : Int) == 10) = false := by simp; omega
  have e35 : ((n : Int) == 35) = false := by simp; omega
  clear c hk
  go_enter Tryz.func68, Tryz.ntmps68
  go_wp2
  go_ret
  exact ⟨rfl, rfl⟩
 ·have hk : kindN n = 0 := by unfold kindN lowN capN digN; simp only [Bool.and_eq_true, decide_eq_true_eq]; repeat (first | rw [if_pos (by omega)] | rw [if_neg (by omega)])
  rw [hk]
  have g97 : decide ((97 : Int) ≤ (n : Int)) = false := decide_eq_false (by omega)
  have g65 : decide ((65 : Int) ≤ (n : Int)) = true := decide_eq_true (by omega)
  have g48 : decide ((48 : Int) ≤ (n : Int)) = true := decide_eq_true (by omega)
  have l122 : decide ((n : Int) ≤ 122) = true := decide_eq_true (by omega)
  have l90 : decide ((n : Int) ≤ 90) = false := decide_eq_false (by omega)
  have l57 : decide ((n : Int) ≤ 57) = false := decide_eq_false (by omega)
  have e46 : ((n : Int) == 46) = false := by simp; omega
  have e32 : ((n : Int) == 32) = false := by simp; omega
  have e9 : ((n : Int) == 9) = false := by simp; omega
  have e10 : ((n : Int) == 10) = false := by simp; omega
  have e35 : ((n : Int) == 35) = false := by simp; omega
  clear c hk
  go_enter Tryz.func68, Tryz.ntmps68
  go_wp2
  go_ret
  exact ⟨rfl, rfl⟩
 ·have hk : kindN n = 1 := by unfold kindN lowN capN digN; simp only [Bool.and_eq_true, decide_eq_true_eq]; repeat (first | rw [if_pos (by omega)] | rw [if_neg (by omega)])
  rw [hk]
  have g97 : decide ((97 : Int) ≤ (n : Int)) = true := decide_eq_true (by omega)
  have g65 : decide ((65 : Int) ≤ (n : Int)) = true := decide_eq_true (by omega)
  have g48 : decide ((48 : Int) ≤ (n : Int)) = true := decide_eq_true (by omega)
  have l122 : decide ((n : Int) ≤ 122) = true := decide_eq_true (by omega)
  have l90 : decide ((n : Int) ≤ 90) = false := decide_eq_false (by omega)
  have l57 : decide ((n : Int) ≤ 57) = false := decide_eq_false (by omega)
  have e46 : ((n : Int) == 46) = false := by simp; omega
  have e32 : ((n : Int) == 32) = false := by simp; omega
  have e9 : ((n : Int) == 9) = false := by simp; omega
  have e10 : ((n : Int) == 10) = false := by simp; omega
  have e35 : ((n : Int) == 35) = false := by simp; omega
  clear c hk
  go_enter Tryz.func68, Tryz.ntmps68
  go_wp2
  go_ret
  exact ⟨rfl, rfl⟩
 ·have hk : kindN n = 0 := by unfold kindN lowN capN digN; simp only [Bool.and_eq_true, decide_eq_true_eq]; repeat (first | rw [if_pos (by omega)] | rw [if_neg (by omega)])
  rw [hk]
  have g97 : decide ((97 : Int) ≤ (n : Int)) = true := decide_eq_true (by omega)
  have g65 : decide ((65 : Int) ≤ (n : Int)) = true := decide_eq_true (by omega)
  have g48 : decide ((48 : Int) ≤ (n : Int)) = true := decide_eq_true (by omega)
  have l122 : decide ((n : Int) ≤ 122) = false := decide_eq_false (by omega)
  have l90 : decide ((n : Int) ≤ 90) = false := decide_eq_false (by omega)
  have l57 : decide ((n : Int) ≤ 57) = false := decide_eq_false (by omega)
  have e46 : ((n : Int) == 46) = false := by simp; omega
  have e32 : ((n : Int) == 32) = false := by simp; omega
  have e9 : ((n : Int) == 9) = false := by simp; omega
  have e10 : ((n : Int) == 10) = false := by simp; omega
  have e35 : ((n : Int) == 35) = false := by simp; omega
  clear c hk
  go_enter Tryz.func68, Tryz.ntmps68
  go_wp2
  go_ret
  exact ⟨rfl, rfl⟩
end Go.Proofs.YtglniapfnhedoaaGreatDoor
namespace Go.Proofs.YtglniapfnhedoaaGreatDoor
open Go.RowKit
theorem B.bytes {a w : World} (h : B a w) (e : TypeId) (s : ByteArray) : B a (Lib.bytesWorld w e s) :=
 ⟨⟨h.below.os, h.below.tape, h.below.output, by rw [Lib.bytesWorld_size]; have := h.below.size; omega, fun k hk => by
  rw [Lib.bytesWorld_at_old w e s k (Nat.lt_of_lt_of_le hk h.below.size)]
  exact h.below.block k hk⟩⟩
theorem kind_dig {n : Nat} : digN n = true ↔ kindN n = 3 := by
 constructor
 ·intro h
  have := digN_iff.1 h
  unfold kindN lowN capN
  simp only [Bool.and_eq_true, decide_eq_true_eq]
  rw [if_neg (by omega), if_neg (by omega), if_pos h]
 ·intro h
  unfold kindN at h
  split at h; · omega
  split at h; · omega
  split at h
  ·assumption
  repeat' (split at h)
  all_goals omega
end Go.Proofs.YtglniapfnhedoaaGreatDoor
namespace Go.Proofs.YtglniapfnhedoaaGreatDoor
open Go.RowKit
theorem kind_low {n : Nat} : lowN n = true ↔ kindN n = 1 := by
 constructor
 ·intro h
  unfold kindN
  rw [if_pos h]
 ·intro h
  unfold kindN at h
  split at h
  ·assumption
  repeat' (split at h)
  all_goals omega
set_option maxHeartbeats 1000000 in
theorem name_any (s : ByteArray) (w : World) : Calls Tryz.prog 56 #[.string s] w fun e w' => e = .returned (.bool (nameS s)) ∧ B w w' := by
 have hE := toList_empty s
 by_cases h2 : 16 < s.size
 ·have h2B : decide ((16 : Int) < (s.size : Int)) = true := decide_eq_true (by omega)
  rw [nameS_size (.inr h2)]
  clear h2 hE
  go_enter Tryz.func56, Tryz.ntmps56
  go_wp2
  go_ret
  exact ⟨rfl, B.refl _⟩
 have h2B : decide ((16 : Int) < (s.size : Int)) = false := decide_eq_false (by omega)
 by_cases h1 : s.size < 1
 ·rw [decide_eq_true h1] at hE
  rw [nameS_size (.inl h1)]
  clear h1 h2
  go_enter Tryz.func56, Tryz.ntmps56
  go_wp2
  go_ret
  exact ⟨rfl, B.refl _⟩
 rw [decide_eq_false h1] at hE
 have hz : (0 : Int) < (s.size : Int) := by omega
 have hz' : 0 < s.size := by omega
 have hg0 : ∀ h : 0 < s.size, (s[0]'h).toNat = byteAt s 0 := fun h => byteAt_get s 0 h
 have ck := fun w => kind_any (byteAt s 0) w
 cases h3 : lowN (byteAt s 0)
 ·have hK : ((kindN (byteAt s 0) : Int) != 1) = true := by
   have : kindN (byteAt s 0) ≠ 1 := fun e => by rw [kind_low.2 e] at h3; cases h3
   simp; omega
  rw [nameS_first h3]
  obtain ⟨m, hm⟩ : ∃ m, byteAt s 0 = m := ⟨_, rfl⟩
  rw [hm] at hg0 hK ck
  generalize kindN m = K at *
  clear h1 h2 h3 hm
  go_enter Tryz.func56, Tryz.ntmps56
  go_wp2_with fail
  refine (ck _).mono ?_
  rintro e w1 ⟨rfl, rfl⟩
  go_wp2
  go_ret
  exact ⟨rfl, B.refl _⟩
 have hK : ((kindN (byteAt s 0) : Int) != 1) = false := by
  have := kind_low.1 h3
  simp; omega
 have hconv := fun w => Lib.run_convert_string_bytes (P := Tryz.prog) w 9 47 5 s Tryz.underlying9 Tryz.underlying47 Tryz.underlying5
 have hcell : ∀ j, j < s.size → (Lib.bytesWorld w 5 s).cell? ⟨w.heap.size, j, none⟩ = some (.int .u8 ((byteAt s j : Nat) : Int)) := fun j hj => Lib.bytesWorld_cell w _ s j hj
 have HB := Lib.hid ((B.refl w).bytes 5 s)
 have hgood := Lib.hid (fun h => nameS_good (s := s) (by omega) (by omega) h3 h)
 have hbad := Lib.hid (show ∀ i, i < s.size → (lowN (byteAt s i) || digN (byteAt s i)) = false → nameS s = false from fun i h1 h2 => nameS_bad h1 h2)
 generalize nameS s = R at *
 have HSZ := Lib.hid (show s.size ≤ 16 by omega)
 generalize hb0 : byteAt s 0 = b0 at hg0 hK ck
 generalize kindN b0 = K at *
 clear h1 h2 h3 hb0
 go_enter Tryz.func56, Tryz.ntmps56
 go_wp2_with fail
 refine (ck _).mono ?_
 rintro e w1 ⟨rfl, rfl⟩
 clear ck
 go_wp2
 clear hg0 hK hE h2B
 generalize Lib.bytesWorld w 5 s = W1 at *
 generalize w.heap.size = H at *
 go_loopw [22] (fun iv wr => ∃ k : Nat, k ≤ s.size ∧ iv = .int .i64 k ∧ (∀ j, j < k → (lowN (byteAt s j) || digN (byteAt s j)) = true) ∧ W1 = wr) (fun iv _ => s.size + 1 - (intOf iv).toNat)
 case atStart => exact ⟨0, Nat.zero_le _, rfl, fun j hj => by omega, rfl⟩
 case round =>
  obtain ⟨k, hk, rfl, hall, rfl⟩ := hrel
  by_cases hl : k < s.size
  ·have hlB : decide ((k : Int) < (s.size : Int)) = true := decide_eq_true (by omega)
   have hlI : (k : Int) < (s.size : Int) := by omega
   have wk1 : IntKind.i64.wrap ((k : Int) + 1) = (k : Int) + 1 := by have := HSZ.out; rw [IntKind.wrap_i64]; omega
   have hc := hcell k hl
   have ck := fun w => kind_any (byteAt s k) w
   have hnext : (lowN (byteAt s k) || digN (byteAt s k)) = true → ∀ j, j < k + 1 → (lowN (byteAt s j) || digN (byteAt s j)) = true := fun h j hj => by
    by_cases c : j = k
    ·subst c; exact h
    ·exact hall j (by omega)
   obtain ⟨m, hm⟩ : ∃ m, byteAt s k = m := ⟨_, rfl⟩
   have hb := hbad.out k hl
   rw [hm] at hc ck hnext hb
   by_cases c1 : kindN m = 1
   ·have hK : ((kindN m : Int) != 1) = false := by simp; omega
    have HA := Lib.hid (And.intro (hnext (by rw [kind_low.2 c1]; rfl)) hl)
    generalize kindN m = K at *
    clear hnext hb hall hm c1 hcell hbad hgood HB hl hk
    go_wp2_with fail
    refine (ck _).mono ?_
    rintro e w1 ⟨rfl, rfl⟩
    clear ck
    go_wp2
    go_roundw
    case rel => exact ⟨k + 1, by have := HA.out.2; omega, by go_num, HA.out.1, trivial⟩
    case measure => have := HA.out.2; simp [intOf]; omega
   by_cases c3 : kindN m = 3
   ·have hK : ((kindN m : Int) != 1) = true := by simp; omega
    have hK3 : ((kindN m : Int) != 3) = false := by simp; omega
    have HA := Lib.hid (And.intro (hnext (by rw [kind_dig.2 c3]; simp)) hl)
    generalize kindN m = K at *
    clear hnext hb hall hm c1 c3 hcell hbad hgood HB hl hk
    go_wp2_with fail
    refine (ck _).mono ?_
    rintro e w1 ⟨rfl, rfl⟩
    clear ck
    go_wp2
    go_roundw
    case rel => exact ⟨k + 1, by have := HA.out.2; omega, by go_num, HA.out.1, trivial⟩
    case measure => have := HA.out.2; simp [intOf]; omega
   ·have hK : ((kindN m : Int) != 1) = true := by simp; omega
    have hK3 : ((kindN m : Int) != 3) = true := by simp; omega
    have e1 : lowN m = false := by
     cases h : lowN m
     ·rfl
     ·exact absurd (kind_low.1 h) c1
    have e3 : digN m = false := by
     cases h : digN m
     ·rfl
     ·exact absurd (kind_dig.1 h) c3
    obtain rfl := hb (by rw [e1, e3]; rfl)
    generalize kindN m = K at *
    clear hnext hb hall hm c1 c3 e1 e3 hcell hbad hgood hl hk
    go_wp2_with fail
    refine (ck _).mono ?_
    rintro e w1 ⟨rfl, rfl⟩
    clear ck
    go_wp2
    go_ret
    exact ⟨rfl, HB.out⟩
  ·have hlB : decide ((k : Int) < (s.size : Int)) = false := decide_eq_false (by omega)
   have HR := Lib.hid (hgood.out (fun i hi => hall i (by omega)))
   clear hall hgood hbad hcell hk
   go_wp2
   go_ret
   exact ⟨by rw [HR.out]; rfl, HB.out⟩
end Go.Proofs.YtglniapfnhedoaaGreatDoor
namespace Go.Proofs.YtglniapfnhedoaaGreatDoor
open Go.RowKit Go.Maps Go.WideMaps
set_option linter.unusedVariables false
theorem str9 : Keyed Tryz.prog 9 := string_keyed Tryz.underlying9
theorem int_zero (w : World) : (zeroValue 3).run Tryz.prog w = .ok (.int .i64 0) w := by kernel_rfl
def namedL (ns : List ByteArray) (s : ByteArray) : Bool := ns.any fun n => n.toList == s.toList
def NmAt (w : World) (b : Nat) (ns : List ByteArray) : Prop :=
 ∃ D : DataW Unit, w.ownsMap Tryz.prog 9 (plainElem Tryz.prog 3) b ns.length D ∧ Maps.Tidy D ∧ Maps.size D = ns.length ∧
  (∀ s : ByteArray, Maps.has D (.string s.data.toList) = namedL ns s) ∧
  ∀ (i : Nat) n, ns[i]? = some n → D.atKey (.string n.data.toList) (.lit (.int .i64 0)) = .lit (.int .i64 ((i : Nat) : Int))
theorem NmAt.new (w : World) : NmAt (w.alloc (.map #[] 0)) w.heap.size [] :=
 ⟨_, World.ownsMap_made w _ _ _, Maps.tidy_empty, rfl, fun _ => rfl, fun i n h => by simp at h⟩
theorem ownsMap_obj {P : Program} {k : TypeId} {R : Value → Option (DataW Unit × List MemPlace)} {w : World} {b n : Nat} {D : DataW Unit} (h : w.ownsMap P k R b n D) : ∃ es c, w.heap[b]? = some (.map es c) := by
 obtain ⟨es, c, h1, _⟩ := h
 exact ⟨es, c, h1⟩
theorem ownsMap_same {P : Program} {k : TypeId} {R : Value → Option (DataW Unit × List MemPlace)} {w w' : World} {b n : Nat} {D : DataW Unit} (h : w.ownsMap P k R b n D) (hb : w'.heap[b]? = w.heap[b]?) : w'.ownsMap P k R b n D := by
 obtain ⟨es, c, h1, h2⟩ := h
 exact ⟨es, c, hb.trans h1, h2⟩
theorem NmAt.same {w w' : World} {b : Nat} {ns : List ByteArray} (h : NmAt w b ns) (hb : w'.heap[b]? = w.heap[b]?) : NmAt w' b ns :=
 let ⟨D, h1, h2⟩ := h
 ⟨D, ownsMap_same h1 hb, h2⟩
theorem NmAt.obj {w : World} {b : Nat} {ns : List ByteArray} (h : NmAt w b ns) : ∃ es c, w.heap[b]? = some (.map es c) := let ⟨_, h1, _⟩ := h; ownsMap_obj h1
theorem namedL_snoc (ns : List ByteArray) (s x : ByteArray) : namedL (ns ++ [s]) x = (namedL ns x || s.toList == x.toList) := by simp [namedL]
theorem turned_tn {w w' : World} {b base : Nat} (h : w.mapTurned w' b) (hb : base ≤ b) {K : List (Option TypeId)} (hK : none ∈ K) : Tn K base w w' := by
 obtain ⟨es, c, es', c', ho, rfl⟩ := h
 refine ⟨rfl, rfl, rfl, by simp [ChangeMaps.setBlock], fun i hi => ?_⟩
 by_cases e : i = b
 ·subst e
  exact .inr ⟨hb, none, _, hK, ho, rfl⟩
 ·exact .inl (ChangeMaps.heap_setBlock_other ho _ e)
def Tm (b : Nat) (w w' : World) : Prop := ∀ i es c, i ≠ b → w.heap[i]? = some (.map es c) → w'.heap[i]? = some (.map es c)
theorem Tm.trans {b : Nat} {w1 w2 w3 : World} (h : Tm b w1 w2) (k : Tm b w2 w3) : Tm b w1 w3 := fun i es c hi ho => k i es c hi (h i es c hi ho)
theorem Tm.refl (b : Nat) (w : World) : Tm b w w := fun _ _ _ _ h => h
theorem Tn.tm {K : List (Option TypeId)} {base : Nat} {w w' : World} (t : Tn K base w w') (hK : none ∉ K) (b : Nat) : Tm b w w' := fun i es c _ ho => t.objm ho hK
theorem B.tm {w w' : World} (q : B w w') (b : Nat) : Tm b w w' := fun i es c _ ho => (q.below.block i (obj_lt ho)).trans ho
theorem turned_tm {w w' : World} {b : Nat} (h : w.mapTurned w' b) : Tm b w w' := fun i es c hi ho => by
 obtain ⟨es1, c1, es', c', hb, rfl⟩ := h
 exact (ChangeMaps.heap_setBlock_other hb _ hi).trans ho
theorem NmAt.tm {w w' : World} {b b' : Nat} {ns : List ByteArray} (h : NmAt w b ns) (t : Tm b' w w') (hb : b ≠ b') : NmAt w' b ns := by
 obtain ⟨es, c, ho⟩ := h.obj
 exact h.same ((t b es c hb ho).trans ho.symm)
def addN (ns : List ByteArray) (s : ByteArray) : List ByteArray := if (nameS s && !namedL ns s) = true then ns ++ [s] else ns
def kM : List (Option TypeId) := [none]
theorem key9 (s : ByteArray) (h : s.size ≤ maxLen) : keyOf Tryz.prog 9 (.string s) = some (.string s.data.toList) := by
 have := keyOf_string_mk (P := Tryz.prog) (k := 9) Tryz.underlying9 (s := s) h
 simpa using this
set_option maxHeartbeats 1000000 in
theorem lit_ne {s x : ByteArray} (h : (s.toList == x.toList) = false) : Lit.string x.data.toList ≠ Lit.string s.data.toList := by
 intro e
 rw [Lit.string.injEq] at e
 rw [Go.Lib.toList_data, Go.Lib.toList_data, e] at h
 simp at h
theorem names_put {D : DataW Unit} {ns : List ByteArray} {s : ByteArray} (hT : Maps.Tidy D) (hS : Maps.size D = ns.length) (hH : ∀ s : ByteArray, Maps.has D (.string s.data.toList) = namedL ns s)
  (hA : ∀ (i : Nat) n, ns[i]? = some n → D.atKey (.string n.data.toList) (.lit (.int .i64 0)) = .lit (.int .i64 ((i : Nat) : Int))) (hns : namedL ns s = false) :
  let D' := D.put (.string s.data.toList) (.lit (.int .i64 (ns.length : Int)))
  Maps.Tidy D' ∧ Maps.size D' = (ns ++ [s]).length ∧ (∀ x : ByteArray, Maps.has D' (.string x.data.toList) = namedL (ns ++ [s]) x) ∧
   ∀ (i : Nat) n, (ns ++ [s])[i]? = some n → D'.atKey (.string n.data.toList) (.lit (.int .i64 0)) = .lit (.int .i64 ((i : Nat) : Int)) := by
 have hk : WideAt.IsKeyLit (.string s.data.toList) := trivial
 refine ⟨hT.put hk _, ?_, fun x => ?_, fun i n hi => ?_⟩
 ·rw [size_put hT, hH, hns]
  simp [hS]
 ·rw [namedL_snoc]
  cases hx : s.toList == x.toList
  ·rw [has_put_other (lit_ne hx), hH]
   simp
  ·have e : s.data.toList = x.data.toList := by
    rw [← Go.Lib.toList_data, ← Go.Lib.toList_data]
    simpa using hx
   rw [← e, has_put_same hT.isMap hk]
   simp
 ·by_cases hl : i < ns.length
  ·rw [List.getElem?_append_left hl] at hi
   have hx : (s.toList == n.toList) = false := by
    cases hx : s.toList == n.toList
    ·rfl
    ·have : namedL ns s = true := List.any_eq_true.2 ⟨n, List.mem_of_getElem? hi, by simpa using (by simpa using hx : s.toList = n.toList).symm⟩
     rw [hns] at this
     cases this
   rw [atKey_put_other (lit_ne hx)]
   exact hA i n hi
  ·rw [List.getElem?_append_right (by omega)] at hi
   have h0 : i - ns.length = 0 := by
    rcases Nat.eq_zero_or_pos (i - ns.length) with h | h
    ·exact h
    ·rw [List.getElem?_eq_none (by simp; omega)] at hi; cases hi
   rw [h0] at hi
   obtain rfl : s = n := by simpa using hi
   obtain rfl : i = ns.length := by omega
   rw [atKey_put_same hT.isMap hk]
set_option maxRecDepth 100000 in
theorem add_any (w : World) (base b : Nat) (ns : List ByteArray) (s : ByteArray) (hs : s.size ≤ maxLen) (hn : ns.length < 1000) (hb : base ≤ b) (h : NmAt w b ns) :
  Calls Tryz.prog 25 #[.map (some b), .string s] w fun r w' => r = .returned (.bool (nameS s && !namedL ns s)) ∧ NmAt w' b (addN ns s) ∧ Tn kM base w w' ∧ Tm b w w' := by
 unfold addN
 have hkey := key9 s hs
 have h0 := h
 obtain ⟨D, hD, hT, hS, hH, hA⟩ := h
 have hHs := hH s
 cases hns : namedL ns s
 ·rw [hns] at hHs
  cases hok : nameS s
  ·refine Calls.mono (R := fun r w' => r = .returned (.bool false) ∧ NmAt w' b ns ∧ Tn kM base w w' ∧ Tm b w w') ?_ (fun _ _ h => h)
   have HR := Lib.hid h0
   clear h0 hS hH hA hT hns
   go_enter Tryz.func25, Tryz.ntmps25
   go_wp2_with (first
    | (at_lookup; refine wpList_lookup_own_ok_int _ rfl _ _ 76 rfl 9 3 .i64 str9 Tryz.underlying76 Tryz.underlying3 (int_zero _) b _ D rfl hD _ _ rfl hkey ?_; intro c _ _; rw [hHs])
    | (go_at_call 56; refine (name_any _ _).mono ?_; rintro _ w1 ⟨rfl, q1⟩; simp only [hok]))
   go_ret
   exact ⟨rfl, HR.out.same (q1.below.block _ (by obtain ⟨es, c, ho⟩ := HR.out.obj; exact obj_lt ho)), q1.tn _ _, q1.tm b⟩
  ·refine Calls.mono (R := fun r w' => r = .returned (.bool true) ∧ NmAt w' b (ns ++ [s]) ∧ Tn kM base w w' ∧ Tm b w w') ?_ (fun _ _ h => h)
   have HX := Lib.hid (And.intro hT (And.intro hS (And.intro hH (And.intro hA hns))))
   clear h0 hT hH hA hns
   go_enter Tryz.func25, Tryz.ntmps25
   go_wp2_with (first
    | (at_lookup; refine wpList_lookup_own_ok_int _ rfl _ _ 76 rfl 9 3 .i64 str9 Tryz.underlying76 Tryz.underlying3 (int_zero _) b _ D rfl hD _ _ rfl hkey ?_; intro c _ _; rw [hHs])
    | (go_at_call 56; refine (name_any _ _).mono ?_; rintro _ w1 ⟨rfl, q1⟩; simp only [hok]; have hD1 := ownsMap_same hD (q1.below.block _ hD.lt))
    | (at_len; refine wpList_len_own _ rfl _ 76 rfl 9 3 Tryz.underlying76 _ b _ D rfl hD1 ?_; rw [hS])
    | (at_mapUpdate; refine wpList_mapUpdate_in _ rfl _ _ _ 76 rfl 9 3 str9 Tryz.underlying76 _ b _ D rfl hD1 (by unfold maxLen; omega) _ _ _ rfl rfl hkey (.lit (.int .i64 (ns.length : Int))) [] (plainElem_int Tryz.underlying3 (by simp [Lit.wf, IntKind.min, IntKind.max, IntKind.signed, IntKind.bits]; omega)) ?_; intro w2 hD2 ht2))
   go_ret
   obtain ⟨hT, hS, hH, hA, hns⟩ := HX.out
   refine ⟨rfl, ?_, (q1.tn kM base).trans (turned_tn ht2 hb (by decide)), (q1.tm b).trans (turned_tm ht2)⟩
   have hp := names_put hT hS hH hA hns
   exact ⟨_, by simpa using hD2, hp⟩
 ·rw [hns] at hHs
  rw [Bool.not_true, Bool.and_false]
  refine Calls.mono (R := fun r w' => r = .returned (.bool false) ∧ NmAt w' b ns ∧ Tn kM base w w' ∧ Tm b w w') ?_ (fun _ _ h => h)
  have HR := Lib.hid h0
  clear h0 hS hH hA hT hns
  go_enter Tryz.func25, Tryz.ntmps25
  go_wp2_with (first
   | (at_lookup; refine wpList_lookup_own_ok_int _ rfl _ _ 76 rfl 9 3 .i64 str9 Tryz.underlying76 Tryz.underlying3 (int_zero _) b _ D rfl hD _ _ rfl hkey ?_; intro c _ _; rw [hHs]))
  go_ret
  exact ⟨rfl, HR.out, Tn.refl _ _ _, Tm.refl _ _⟩
theorem NmAt.tn {K : List (Option TypeId)} {base : Nat} {w w' : World} {b : Nat} {ns : List ByteArray} (h : NmAt w b ns) (t : Tn K base w w') (hK : none ∉ K) : NmAt w' b ns := by
 obtain ⟨es, c, ho⟩ := h.obj
 exact h.same ((t.objm ho hK).trans ho.symm)
theorem addN_yes {ns : List ByteArray} {s : ByteArray} (h : (nameS s && !namedL ns s) = true) : addN ns s = ns ++ [s] := by unfold addN; rw [if_pos h]
end Go.Proofs.YtglniapfnhedoaaGreatDoor
namespace Go.Proofs.YtglniapfnhedoaaGreatDoor
open Go.RowKit Go.Maps Go.WideMaps
set_option linter.unusedVariables false
theorem laid9 : laidOutB Tryz.prog = true := by kernel_rfl
theorem wideWell : (match Tryz.prog.underlying 39 with | some (.array _ _) | some (.struct _) => true | _ => false) = true := by rw [Tryz.underlying39]
set_option maxRecDepth 100000 in
theorem wellKeyed : Keyed Tryz.prog 39 := Keyed.of_law (deep_law_laid laid9 (m := 3) (by omega) (of_decide_eq_true (by kernel_rfl)) (by kernel_rfl) wideWell)
def wkey (n : ByteArray) (r c : Int) : Lit := .string (keyBytes [.string n.data.toList, .int .i64 r, .int .i64 c])
theorem wf_i64 {r : Int} (h : I64 r) : (Lit.int .i64 r).wf = true := by
 unfold I64 at h
 simp [Lit.wf, IntKind.min, IntKind.max, IntKind.signed, IntKind.bits]
 omega
theorem keyT : Tryz.prog.keyType 39 = true := by kernel_rfl
theorem cells3 : Tryz.prog.cellsOf 39 = 3 := by kernel_rfl
theorem cellsS : Tryz.prog.cellsOf 9 = 1 := by kernel_rfl
theorem cellsI1 : Tryz.prog.cellsOf 3 = 1 := by kernel_rfl
theorem key_well (n : ByteArray) (r c : Int) (hn : n.size ≤ maxLen) (hr : I64 r) (hc : I64 c) : keyOf Tryz.prog 39 (.agg #[.string n, .int .i64 r, .int .i64 c]) = some (wkey n r c) := by
 have wr := wf_i64 hr
 have wc := wf_i64 hc
 have e : Tryz.prog.keyLits (Tryz.prog.types.size + 1) 39 [.string n, .int .i64 r, .int .i64 c] = some [.string n.data.toList, .int .i64 r, .int .i64 c] := by
  obtain ⟨m, hm⟩ : ∃ m, Tryz.prog.types.size = m + 1 := ⟨Tryz.prog.types.size - 1, by have : 0 < Tryz.prog.types.size := of_decide_eq_true (by kernel_rfl); omega⟩
  rw [hm]
  simp [Program.keyLits, Tryz.underlying39, Tryz.underlying9, Tryz.underlying3, cells3, cellsS, cellsI1, hn, wr, wc]
 unfold keyOf
 rw [Tryz.underlying39]
 simp only [keyT]
 simp [Value.formed, Tryz.underlying39, cells3, Value.cells, wkey]
 exact ⟨_, by simpa using e, rfl⟩
theorem wkey_inj {n n' : ByteArray} {r c r' c' : Int} (hn : n.size ≤ maxLen) (hr : I64 r) (hc : I64 c) (hn' : n'.size ≤ maxLen) (hr' : I64 r') (hc' : I64 c') (h : wkey n r c = wkey n' r' c') : n = n' ∧ r = r' ∧ c = c' := by
 have := wellKeyed.inj (key_well n r c hn hr hc) (h ▸ key_well n' r' c' hn' hr' hc')
 simpa using this
end Go.Proofs.YtglniapfnhedoaaGreatDoor
