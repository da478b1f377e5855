/-
  Texts that are no wells. No program is named here; Which texts are no wells; Each row and column of the greatest ware has a text of its own; The four statements of wells, over any arguments.
-/
import Derived.KernelRfl
import Derived.Test.YtjcpabppklkjpaaDoorZ1
import Derived.Test.YtjcpabppklkjpaaDoorZ2
import Derived.Test.YtjcpabppklkjpaaDoorZ3
import Derived.Test.YtjcpabppklkjpaaDoorZ4
import Derived.Test.YtjcpabppklkjpaaDoorZ5
import Derived.Test.YtjcpabppklkjpaaDoorZ6
import Derived.Test.YtjcpabppklkjpaaDoorZ7
import Derived.Test.YtjcpabppklkjpaaDoorZ8
import Derived.Test.YtjcpabppklkjpaaDoorZ9
import Derived.Test.YtjcpabppklkjpaaDoorZ10
import Derived.Test.YtjcpabppklkjpaaDoorZ11
namespace Go.Proofs.YtjcpabppklkjpaaDoor
open Go.RowKit
set_option linter.unusedVariables false
theorem dot_no (s : List UInt8) (j : Nat) (c : UInt8) (hj : j < dotAt s) (hc : s[j]? = some c) : c.toNat ≠ 46 := by
  have hl : j < (s.takeWhile fun c => decide (c.toNat ≠ 46)).length := hj
  have e : (s.takeWhile fun c => decide (c.toNat ≠ 46))[j]? = some c := by
    rw [take_dot, List.getElem?_take_of_lt (by omega)]
    exact hc
  have hm := List.mem_of_getElem? e
  have := List.all_takeWhile (p := fun c : UInt8 => decide (c.toNat ≠ 46)) (l := s)
  rw [List.all_eq_true] at this
  simpa using this c hm
theorem dot_twice (s : List UInt8) : dotAt (s ++ 46 :: s) = dotAt s := by
  have hd := dot_le s
  refine dot_is _ _ (fun j c hj hc => ?_) (by simp; omega) (.inr ?_)
  · rw [List.getElem?_append_left (by omega)] at hc
    exact dot_no s j c hj hc
  · by_cases h : dotAt s < s.length
    · exact ⟨46, by rw [List.getElem?_append_left h, List.getElem?_eq_getElem h, index_dot_at s h], rfl⟩
    · refine ⟨46, ?_, rfl⟩
      rw [List.getElem?_append_right (by omega), show dotAt s - s.length = 0 by omega]
      rfl
theorem well_twice (s : List UInt8) : wellL (s ++ 46 :: s) = none := by
  have hd := dot_le s
  have hdd := dot_twice s
  by_cases h : dotAt s < s.length
  · have hdrop : (s ++ 46 :: s).drop (dotAt s + 1) = s.drop (dotAt s + 1) ++ 46 :: s := by rw [List.drop_append_of_le_length (by omega)]
    cases e : s.drop (dotAt s + 1) with
    | nil =>
      have hg : (s ++ 46 :: s)[dotAt s + 1]? = some 46 := by
        rw [← List.head?_drop, hdrop, e]; rfl
      rw [well_long hdd hg, if_neg]
      rintro ⟨_, h2, _⟩
      exact absurd h2 (by decide)
    | cons x u =>
      have hg : (s ++ 46 :: s)[dotAt s + 1]? = some x := by
        rw [← List.head?_drop, hdrop, e]; rfl
      have hds : (s ++ 46 :: s).drop (dotAt s + 2) = u ++ 46 :: s := by
        rw [show dotAt s + 2 = (dotAt s + 1) + 1 from rfl, ← List.drop_drop, hdrop, e]
        rfl
      rw [well_long hdd hg, if_neg]
      rintro ⟨_, _, _, h4, _⟩
      rw [hds] at h4
      have h3 := (numOk_iff.1 h4).2.2.1 u.length (by rw [strB_size]; simp)
      rw [byteAt_lst _ u.length 46 (by rw [List.getElem?_append_right (Nat.le_refl _)]; simp)] at h3
      exact absurd h3 (by decide)
  · have hk : dotAt s = s.length := by omega
    cases e : s with
    | nil => rfl
    | cons x u =>
      rw [← e]
      have hg : (s ++ 46 :: s)[dotAt s + 1]? = some x := by
        rw [hk, List.getElem?_append_right (by omega), show s.length + 1 - s.length = 1 by omega, e]
        rfl
      rw [well_long hdd hg, if_neg]
      rintro ⟨h1, h2, h3, _⟩
      rw [hk, List.take_left] at h1
      unfold nameS at h1
      simp only [Bool.and_eq_true, decide_eq_true_eq] at h1
      have h5 : lowN (byteAt (strB s) 0) = true := by simp_all
      rw [byteAt_lst _ 0 x (by rw [e]; rfl)] at h5
      unfold lowN at h5
      simp only [Bool.and_eq_true, decide_eq_true_eq] at h5
      omega
theorem well_13 {n : Nat} (h : 13 ≤ n) (hn : n ≤ 100000) : wellL ([112, 46, 65] ++ decI (n : Int)) = none := by
  have hd : dotAt ([112, 46, 65] ++ decI (n : Int)) = 1 := rfl
  rw [well_long hd (r := 65) rfl, if_neg]
  rintro ⟨_, _, _, _, _, h6⟩
  have e : ([112, 46, 65] ++ decI (n : Int)).drop (1 + 2) = decI (n : Int) := rfl
  rw [e] at h6
  unfold decI at h6
  rw [Int.toNat_natCast, (digs_num (by omega)).2] at h6
  omega
/-- Texts that are refused. -/
def refL (D : List UInt8) : List (List UInt8) := [[112, 46, 65, 48], [112, 46, 73, 49], [112, 46, 65, 49, 51], [112, 46, 65, 48, 49], [112, 46, 97, 49], [46, 65, 49], [80, 46, 65, 49], [112, 46, 65], [112, 46, 49, 65], [112, 46, 65, 49, 32], [112, 46, 46, 65, 49], [112, 65, 49], [49, 112, 46, 65, 49], [112, 46, 65, 49, 46], [97, 98, 99, 100, 101, 102, 103, 104, 105, 106, 107, 108, 109, 110, 111, 112, 113, 46, 65, 49], [112, 46, 65] ++ D]
theorem refL_no {D : List UInt8} (hD : wellL ([112, 46, 65] ++ D) = none) {i : Nat} {X : List UInt8} (h : (refL D)[i]? = some X) : wellL X = none := by
  have hm := List.mem_of_getElem? h
  unfold refL at hm
  simp only [List.mem_cons, List.not_mem_nil, or_false] at hm
  rcases hm with rfl | rfl | rfl | rfl | rfl | rfl | rfl | rfl | rfl | rfl | rfl | rfl | rfl | rfl | rfl | rfl
  all_goals first
    | exact hD
    | (show wellL _ = none; rfl)
end Go.Proofs.YtjcpabppklkjpaaDoor

namespace Go.Proofs.YtjcpabppklkjpaaDoor
open Go.RowKit
set_option linter.unusedVariables false
theorem refL_cells (D : List UInt8) : (#[.string ⟨#[112, 46, 65, 48]⟩, .string ⟨#[112, 46, 73, 49]⟩, .string ⟨#[112, 46, 65, 49, 51]⟩, .string ⟨#[112, 46, 65, 48, 49]⟩, .string ⟨#[112, 46, 97, 49]⟩, .string ⟨#[46, 65, 49]⟩, .string ⟨#[80, 46, 65, 49]⟩, .string ⟨#[112, 46, 65]⟩, .string ⟨#[112, 46, 49, 65]⟩, .string ⟨#[112, 46, 65, 49, 32]⟩, .string ⟨#[112, 46, 46, 65, 49]⟩, .string ⟨#[112, 65, 49]⟩, .string ⟨#[49, 112, 46, 65, 49]⟩, .string ⟨#[112, 46, 65, 49, 46]⟩, .string ⟨#[97, 98, 99, 100, 101, 102, 103, 104, 105, 106, 107, 108, 109, 110, 111, 112, 113, 46, 65, 49]⟩, .string (strB ([112, 46, 65] ++ D))] : Array Value) = ((refL D).map fun X => Value.string (strB X)).toArray := rfl
set_option maxHeartbeats 400000 in
theorem wrefuses_any (k n : Int) (s : List UInt8) (hk : 0 ≤ k ∧ k ≤ 255) (hn : 0 ≤ n ∧ n ≤ 65535) (w : World) : Calls Tryd.prog 6 #[.int .u8 k, .int .u16 n, .string (strB s)] w fun e w' => e = .returned (.bool true) ∧ B w w' := by
  have ck := fun w => wknown_any w
  have hz := strB_size s
  by_cases h20 : 20 < s.length
  · have hB : decide ((20 : Int) < (s.length : Int)) = true := decide_eq_true (by omega)
    have hB' : decide (20 < s.length) = true := decide_eq_true h20
    clear h20
    go_enter Tryd.func6, Tryd.ntmps6
    go_wp2_with fail
    refine (ck _).mono ?_
    rintro _ w1 ⟨rfl, q1⟩
    go_wp2
    go_ret
    exact ⟨rfl, q1⟩
  · have hB : decide ((20 : Int) < (s.length : Int)) = false := decide_eq_false (by omega)
    have hB' : decide (20 < s.length) = false := decide_eq_false h20
    obtain ⟨n, rfl⟩ := Int.eq_ofNat_of_zero_le hn.1
    obtain ⟨k, rfl⟩ := Int.eq_ofNat_of_zero_le hk.1
    obtain ⟨M, hM⟩ : ∃ M, 13 + n = M := ⟨_, rfl⟩
    have hM1 : 13 ≤ M ∧ M ≤ 100000 := by omega
    have hMI : (13 : Int) + (n : Int) = (M : Int) := by omega
    have cd := fun w => r8dec_any M M (Nat.le_refl _) (by omega) w
    have u1 : IntKind.i64.wrap (n : Int) = (n : Int) := by rw [IntKind.wrap_i64]; omega
    have u2 : IntKind.i64.wrap ((13 : Int) + (n : Int)) = (M : Int) := by rw [IntKind.wrap_i64]; omega
    have u3 : IntKind.i64.wrap (k : Int) = (k : Int) := by rw [IntKind.wrap_i64]; omega
    obtain ⟨i, hi⟩ : ∃ i, k % 16 = i := ⟨_, rfl⟩
    have hi16 : i < 16 := by omega
    have hD := well_13 hM1.1 hM1.2
    have hds : decS M = strB (decI (M : Int)) := decS_strB M
    have happ : (⟨#[112, 46, 65]⟩ : ByteArray) ++ strB (decI (M : Int)) = strB ([112, 46, 65] ++ decI (M : Int)) := by
      rw [show (⟨#[112, 46, 65]⟩ : ByteArray) = strB [112, 46, 65] from rfl, strB_app]
    have hdl : (strB (decI (M : Int))).size ≤ 20 := by rw [← hds]; exact decS_size (by omega)
    have hdl2 : (decI (M : Int)).length ≤ 20 := by rw [strB_size] at hdl; exact hdl
    have n1 : ¬ 9223372036854775807 < 3 + (strB (decI (M : Int))).size := by omega
    have n1' : ¬ 9223372036854775807 < (⟨#[112, 46, 65]⟩ : ByteArray).size + (strB (decI (M : Int))).size := n1
    obtain ⟨X, hX⟩ : ∃ X, (refL (decI (M : Int)))[i]? = some X := ⟨_, List.getElem?_eq_getElem (by show i < 16; exact hi16)⟩
    have hXn := refL_no hD hX
    have hXl : X.length ≤ 65536 := by
      have hm := List.mem_of_getElem? hX
      unfold refL at hm
      simp only [List.mem_cons, List.not_mem_nil, or_false] at hm
      rcases hm with rfl | rfl | rfl | rfl | rfl | rfl | rfl | rfl | rfl | rfl | rfl | rfl | rfl | rfl | rfl | rfl
      all_goals first
        | (simp; done)
        | (rw [List.length_append]; show 3 + _ ≤ 65536; omega)
    have hcells := refL_cells (decI (M : Int))
    have hcell : (((refL (decI (M : Int))).map fun X => Value.string (strB X)).toArray)[i]? = some (.string (strB X)) := by
      rw [List.getElem?_toArray, List.getElem?_map, hX]; rfl
    have cx : ∀ w, Calls Tryd.prog 10 #[.string (strB X)] w fun e w' => e = .returned (.tuple #[.agg #[.string ⟨#[]⟩, .int .i64 0, .int .i64 0], .bool false]) ∧ B w w' := fun w =>
      (wparse_any X w hXl).mono fun e w' h => wellRes_not hXn h
    have hss : (strB s ++ (⟨#[46]⟩ : ByteArray)) ++ strB s = strB (s ++ 46 :: s) := by
      rw [show (⟨#[46]⟩ : ByteArray) = strB [46] from rfl, strB_app, strB_app]; simp
    have cs : ∀ w, Calls Tryd.prog 10 #[.string (strB (s ++ 46 :: s))] w fun e w' => e = .returned (.tuple #[.agg #[.string ⟨#[]⟩, .int .i64 0, .int .i64 0], .bool false]) ∧ B w w' := fun w =>
      (wparse_any _ w (by simp; omega)).mono fun e w' h => wellRes_not (well_twice s) h
    have hz1 : (strB s ++ (⟨#[46]⟩ : ByteArray)).size = s.length + 1 := by rw [ByteArray.size_append, hz]; rfl
    obtain ⟨S1, hS1⟩ : ∃ S1, strB s ++ (⟨#[46]⟩ : ByteArray) = S1 := ⟨_, rfl⟩
    rw [hS1] at hz1 hss
    have m1 : ¬ 9223372036854775807 < s.length + 1 := by omega
    have m2 : ¬ 9223372036854775807 < s.length + (⟨#[46]⟩ : ByteArray).size := m1
    have m3 : ¬ 9223372036854775807 < s.length + 1 + s.length := by omega
    rw [hds] at cd
    have hL1 : ∀ w : World, (w.alloc (.cells #[.string ⟨#[112, 46, 65, 48]⟩, .string ⟨#[112, 46, 73, 49]⟩, .string ⟨#[112, 46, 65, 49, 51]⟩, .string ⟨#[112, 46, 65, 48, 49]⟩, .string ⟨#[112, 46, 97, 49]⟩, .string ⟨#[46, 65, 49]⟩, .string ⟨#[80, 46, 65, 49]⟩, .string ⟨#[112, 46, 65]⟩, .string ⟨#[112, 46, 49, 65]⟩, .string ⟨#[112, 46, 65, 49, 32]⟩, .string ⟨#[112, 46, 46, 65, 49]⟩, .string ⟨#[112, 65, 49]⟩, .string ⟨#[49, 112, 46, 65, 49]⟩, .string ⟨#[112, 46, 65, 49, 46]⟩, .string ⟨#[97, 98, 99, 100, 101, 102, 103, 104, 105, 106, 107, 108, 109, 110, 111, 112, 113, 46, 65, 49]⟩, .string (strB (112 :: 46 :: 65 :: decI (M : Int)))] 9)).cell? ⟨w.heap.size, k % 16, none⟩ = some (.string (strB X)) := fun w => by
      rw [World.cell?_alloc_new, hi]
      exact hcell
    have hL2 : (#[.string ⟨#[112, 46, 65, 48]⟩, .string ⟨#[112, 46, 73, 49]⟩, .string ⟨#[112, 46, 65, 49, 51]⟩, .string ⟨#[112, 46, 65, 48, 49]⟩, .string ⟨#[112, 46, 97, 49]⟩, .string ⟨#[46, 65, 49]⟩, .string ⟨#[80, 46, 65, 49]⟩, .string ⟨#[112, 46, 65]⟩, .string ⟨#[112, 46, 49, 65]⟩, .string ⟨#[112, 46, 65, 49, 32]⟩, .string ⟨#[112, 46, 46, 65, 49]⟩, .string ⟨#[112, 65, 49]⟩, .string ⟨#[49, 112, 46, 65, 49]⟩, .string ⟨#[112, 46, 65, 49, 46]⟩, .string ⟨#[97, 98, 99, 100, 101, 102, 103, 104, 105, 106, 107, 108, 109, 110, 111, 112, 113, 46, 65, 49]⟩, .string (strB (112 :: 46 :: 65 :: decI (M : Int)))] : Array Value)[k % 16]? = some (.string (strB X)) := by
      rw [hi]
      exact hcell
    clear h20 hk hn hM hM1 hMI hi hi16 hD hds hdl hdl2 hX hXn hXl hcells hcell
    go_enter Tryd.func6, Tryd.ntmps6
    go_wp2_with fail
    refine (ck _).mono ?_
    rintro _ w1 ⟨rfl, q1⟩
    go_wp2_with fail
    refine (cd _).mono ?_
    rintro _ _ ⟨rfl, rfl⟩
    go_wp2_with fail
    have q2 := q1.alloc #[.string ⟨#[112, 46, 65, 48]⟩, .string ⟨#[112, 46, 73, 49]⟩, .string ⟨#[112, 46, 65, 49, 51]⟩, .string ⟨#[112, 46, 65, 48, 49]⟩, .string ⟨#[112, 46, 97, 49]⟩, .string ⟨#[46, 65, 49]⟩, .string ⟨#[80, 46, 65, 49]⟩, .string ⟨#[112, 46, 65]⟩, .string ⟨#[112, 46, 49, 65]⟩, .string ⟨#[112, 46, 65, 49, 32]⟩, .string ⟨#[112, 46, 46, 65, 49]⟩, .string ⟨#[112, 65, 49]⟩, .string ⟨#[49, 112, 46, 65, 49]⟩, .string ⟨#[112, 46, 65, 49, 46]⟩, .string ⟨#[97, 98, 99, 100, 101, 102, 103, 104, 105, 106, 107, 108, 109, 110, 111, 112, 113, 46, 65, 49]⟩, .string (strB (112 :: 46 :: 65 :: decI (M : Int)))] 9
    clear hL1 hL2
    refine (cx _).mono ?_
    rintro _ w2 ⟨rfl, q3⟩
    replace q2 := q2.trans q3
    go_wp2_with fail
    refine (cs _).mono ?_
    rintro _ w3 ⟨rfl, q4⟩
    have oA := ((B.refl w3).alloc #[.string ⟨#[]⟩, .int .i64 0, .int .i64 0] 23).obj (q4.obj (obj_new w2 (.cells #[.string ⟨#[]⟩, .int .i64 0, .int .i64 0] 23)))
    have hlt := obj_lt (q4.obj (obj_new w2 (.cells #[.string ⟨#[]⟩, .int .i64 0, .int .i64 0] 23)))
    have qZ := Lib.hid (((q2.alloc #[.string ⟨#[]⟩, .int .i64 0, .int .i64 0] 23).trans q4).alloc #[.string ⟨#[]⟩, .int .i64 0, .int .i64 0] 23)
    have hne : ¬ w2.heap.size = w3.heap.size := by omega
    have hne2 : ¬ w3.heap.size = w2.heap.size := by omega
    have p0 : (w3.alloc (.cells #[.string ⟨#[]⟩, .int .i64 0, .int .i64 0] 23)).cell? ⟨w2.heap.size, 0, none⟩ = some (.string ⟨#[]⟩) := obj_cell oA 0
    have p1 : (w3.alloc (.cells #[.string ⟨#[]⟩, .int .i64 0, .int .i64 0] 23)).cell? ⟨w2.heap.size, 1, none⟩ = some (.int .i64 0) := obj_cell oA 1
    have p2 : (w3.alloc (.cells #[.string ⟨#[]⟩, .int .i64 0, .int .i64 0] 23)).cell? ⟨w2.heap.size, 2, none⟩ = some (.int .i64 0) := obj_cell oA 2
    clear q1 q2 q3 q4 oA hlt
    go_wp2
    go_ret
    exact ⟨rfl, qZ.out⟩
end Go.Proofs.YtjcpabppklkjpaaDoor

namespace Go.Proofs.YtjcpabppklkjpaaDoor
open Go.RowKit
set_option linter.unusedVariables false
theorem dec_len12 {c : Int} (h : 0 ≤ c ∧ c < 12) : 1 ≤ (decI (c + 1)).length ∧ (decI (c + 1)).length ≤ 2 := by
  unfold decI
  by_cases h10 : (c + 1).toNat < 10
  · rw [Lib.decDigits_one h10]; simp
  · rw [Lib.decDigits_two h10 (by omega)]; simp
theorem text_len {r c : Int} (hr : 0 ≤ r ∧ r < 8) (hc : 0 ≤ c ∧ c < 12) : 4 ≤ (strB (wellT ⟨#[112]⟩ r c)).size ∧ (strB (wellT ⟨#[112]⟩ r c)).size ≤ 5 := by
  rw [strB_size]
  unfold wellT
  rw [if_pos ⟨by kernel_rfl, hr.1, hr.2, hc.1, hc.2⟩]
  have := dec_len12 hc
  simp only [List.length_append]
  show 4 ≤ 1 + 2 + _ ∧ 1 + 2 + _ ≤ 5
  omega
theorem text_one {r c r2 c2 : Int} (hr : 0 ≤ r ∧ r < 8) (hc : 0 ≤ c ∧ c < 12) (hr2 : 0 ≤ r2 ∧ r2 < 8) (hc2 : 0 ≤ c2 ∧ c2 < 12) (h : wellT ⟨#[112]⟩ r c = wellT ⟨#[112]⟩ r2 c2) : r = r2 ∧ c = c2 := by
  have e1 := well_said (n := ⟨#[112]⟩) (by kernel_rfl) hr hc
  have e2 := well_said (n := ⟨#[112]⟩) (by kernel_rfl) hr2 hc2
  rw [h, e2] at e1
  simp only [Option.some.injEq, Prod.mk.injEq] at e1
  omega
theorem strB_ne {a b : List UInt8} (h : a ≠ b) : ((strB a).toList == (strB b).toList) = false := by
  rw [beq_eq_false_iff_ne, toList_data, toList_data]
  exact h
set_option maxHeartbeats 2000000 in
theorem weach_any (a b c d : Int) (ha : 0 ≤ a ∧ a ≤ 255) (hb : 0 ≤ b ∧ b ≤ 255) (hc : 0 ≤ c ∧ c ≤ 255) (hd : 0 ≤ d ∧ d ≤ 255) (w : World) : Calls Tryd.prog 5 #[.int .u8 a, .int .u8 b, .int .u8 c, .int .u8 d] w fun e w' => e = .returned (.bool true) ∧ B w w' := by
  have ck := fun w => wknown_any w
  obtain ⟨R, hR⟩ : ∃ R, a.tmod 8 = R := ⟨_, rfl⟩
  obtain ⟨C, hC⟩ : ∃ C, b.tmod 12 = C := ⟨_, rfl⟩
  obtain ⟨R2, hR2⟩ : ∃ R, c.tmod 8 = R := ⟨_, rfl⟩
  obtain ⟨C2, hC2⟩ : ∃ C, d.tmod 12 = C := ⟨_, rfl⟩
  have bR : 0 ≤ R ∧ R < 8 := by rw [← hR, Int.tmod_eq_emod_of_nonneg ha.1]; omega
  have bC : 0 ≤ C ∧ C < 12 := by rw [← hC, Int.tmod_eq_emod_of_nonneg hb.1]; omega
  have bR2 : 0 ≤ R2 ∧ R2 < 8 := by rw [← hR2, Int.tmod_eq_emod_of_nonneg hc.1]; omega
  have bC2 : 0 ≤ C2 ∧ C2 < 12 := by rw [← hC2, Int.tmod_eq_emod_of_nonneg hd.1]; omega
  have m : ∀ x : Int, 0 ≤ x ∧ x < 12 → IntKind.u8.wrap x = x ∧ IntKind.i64.wrap x = x := fun x h => ⟨by unfold IntKind.wrap; simp [IntKind.bits, IntKind.signed]; omega, by rw [IntKind.wrap_i64]; omega⟩
  obtain ⟨u1, v1⟩ := m R (by omega)
  obtain ⟨u2, v2⟩ := m C bC
  obtain ⟨u3, v3⟩ := m R2 (by omega)
  obtain ⟨u4, v4⟩ := m C2 bC2
  have ct1 := fun w => wtext_any ⟨#[112]⟩ R C (by unfold I64; omega) (by unfold I64; omega) w
  have ct2 := fun w => wtext_any ⟨#[112]⟩ R2 C2 (by unfold I64; omega) (by unfold I64; omega) w
  obtain ⟨l4, l5⟩ := text_len bR bC
  have cp : ∀ w, Calls Tryd.prog 10 #[.string (strB (wellT ⟨#[112]⟩ R C))] w fun e w' => e = .returned (.tuple #[.agg #[.string ⟨#[112]⟩, .int .i64 R, .int .i64 C], .bool true]) ∧ B w w' := fun w =>
    (wparse_any (wellT ⟨#[112]⟩ R C) w (by rw [strB_size] at l5; omega)).mono fun e w' h => by
      have := wellRes_is (well_said (n := ⟨#[112]⟩) (by kernel_rfl) bR bC) h
      rw [Int.toNat_of_nonneg bR.1, Int.toNat_of_nonneg bC.1] at this
      exact this
  have hE : ((strB (wellT ⟨#[112]⟩ R C)).toList == (strB (wellT ⟨#[112]⟩ R2 C2)).toList) = ((R == R2) && (C == C2)) := by
    by_cases h : R = R2 ∧ C = C2
    · obtain ⟨rfl, rfl⟩ := h
      simp
    · rw [strB_ne (fun e => h (text_one bR bC bR2 bC2 e))]
      symm
      rw [Bool.and_eq_false_iff]
      by_cases h1 : R = R2
      · exact .inr (beq_eq_false_iff_ne.2 fun e => h ⟨h1, e⟩)
      · exact .inl (beq_eq_false_iff_ne.2 h1)
  generalize strB (wellT ⟨#[112]⟩ R C) = S1 at *
  generalize strB (wellT ⟨#[112]⟩ R2 C2) = S2 at *
  have z4 : decide ((4 : Int) ≤ (S1.size : Int)) = true := decide_eq_true (by omega)
  have z5 : decide ((S1.size : Int) ≤ 5) = true := decide_eq_true (by omega)
  have z4' : decide (4 ≤ S1.size) = true := decide_eq_true (by omega)
  have z5' : decide (S1.size ≤ 5) = true := decide_eq_true (by omega)
  clear m bR bC bR2 bC2 l4 l5 ha hb hc hd
  go_enter Tryd.func5, Tryd.ntmps5
  go_wp2_with fail
  refine (ck _).mono ?_
  rintro _ w1 ⟨rfl, q1⟩
  go_wp2_with fail
  -- walk
  have oA := ((B.refl _).alloc #[.string ⟨#[112]⟩, .int .i64 R2, .int .i64 C2] 23).obj (obj_new w1 (.cells #[.string ⟨#[112]⟩, .int .i64 R, .int .i64 C] 23))
  have oE := obj_new (w1.alloc (.cells #[.string ⟨#[112]⟩, .int .i64 R, .int .i64 C] 23)) (.cells #[.string ⟨#[112]⟩, .int .i64 R2, .int .i64 C2] 23)
  have qB := (q1.alloc #[.string ⟨#[112]⟩, .int .i64 R, .int .i64 C] 23).alloc #[.string ⟨#[112]⟩, .int .i64 R2, .int .i64 C2] 23
  have e1 : (w1.alloc (.cells #[.string ⟨#[112]⟩, .int .i64 R, .int .i64 C] 23)).heap.size = w1.heap.size + 1 := by simp
  rw [e1] at oE
  clear e1 q1
  generalize (w1.alloc (.cells #[.string ⟨#[112]⟩, .int .i64 R, .int .i64 C] 23)).alloc (.cells #[.string ⟨#[112]⟩, .int .i64 R2, .int .i64 C2] 23) = W2 at *
  obtain ⟨E, hE⟩ : ∃ E, w1.heap.size + 1 = E := ⟨_, rfl⟩
  rw [hE] at oE ⊢
  have hne : ¬ w1.heap.size = E := by omega
  have hne2 : ¬ E = w1.heap.size := by omega
  clear hE
  generalize w1.heap.size = H at *
  have p0 : W2.drew.cell? ⟨H, 0, none⟩ = some (.string ⟨#[112]⟩) := obj_cell oA 0
  have p1 : W2.drew.cell? ⟨H, 1, none⟩ = some (.int .i64 R) := obj_cell oA 1
  have p2 : W2.drew.cell? ⟨H, 2, none⟩ = some (.int .i64 C) := obj_cell oA 2
  have p3 : W2.drew.cell? ⟨E, 0, none⟩ = some (.string ⟨#[112]⟩) := obj_cell oE 0
  have p4 : W2.drew.cell? ⟨E, 1, none⟩ = some (.int .i64 R2) := obj_cell oE 1
  have p5 : W2.drew.cell? ⟨E, 2, none⟩ = some (.int .i64 C2) := obj_cell oE 2
  refine wp_region_noPanic ?_
  refine wp_region_seq (S := fun w' => w'.cell? ⟨H, 0, none⟩ = some (.string ⟨#[112]⟩) ∧ w'.cell? ⟨H, 1, none⟩ = some (.int .i64 R) ∧ w'.cell? ⟨H, 2, none⟩ = some (.int .i64 C) ∧ w'.cell? ⟨E, 0, none⟩ = some (.string ⟨#[112]⟩) ∧ w'.cell? ⟨E, 1, none⟩ = some (.int .i64 R2) ∧ w'.cell? ⟨E, 2, none⟩ = some (.int .i64 C2) ∧ B w w') [(0, 0), (2, 0), (1, 2), (3, 2), (4, 0), (5, 0)] [0, 1, 0, 6, 11, 31] [0, 1, 0, 4, 2, 8] (by kernel_rfl) (by kernel_rfl) (fun _ _ _ _ _ h => h) ?_ (fun hH => ?_)
  · exact ⟨p0, p1, p2, p3, p4, p5, qB.drew⟩
  refine wpSeq_take (d := 31) (v := ?_) rfl rfl (by kernel_rfl) (fun w hS => ?_) ?_
  rotate_left
  · go_simp <;> with_reducible rfl
  dsimp only [List.set_cons_zero, List.set_cons_succ]
  refine wpSeq_take (d := 33) (v := ?_) rfl rfl (by kernel_rfl) (fun w hS => ?_) ?_
  rotate_left
  · go_simp <;> with_reducible rfl
  dsimp only [List.set_cons_zero, List.set_cons_succ]
  refine wpSeq_call rfl (by kernel_rfl) (fun K hK => ?_)
  go_simp
  (with_reducible refine (ct1 _).mono ?_)
  rintro e w' ⟨rfl, hq⟩
  refine hK.out _ _ ?_ (fun hH => ?_)
  · exact ⟨hq.keep (hH.1), hq.keep (hH.2.1), hq.keep (hH.2.2.1), hq.keep (hH.2.2.2.1), hq.keep (hH.2.2.2.2.1), hq.keep (hH.2.2.2.2.2.1), (hH.2.2.2.2.2.2).trans hq⟩
  clear hK
  refine wpSeq_call rfl (by kernel_rfl) (fun K hK => ?_)
  go_simp
  (with_reducible refine (ct2 _).mono ?_)
  rintro e w' ⟨rfl, hq⟩
  refine hK.out _ _ ?_ (fun hH => ?_)
  · exact ⟨hq.keep (hH.1), hq.keep (hH.2.1), hq.keep (hH.2.2.1), hq.keep (hH.2.2.2.1), hq.keep (hH.2.2.2.2.1), hq.keep (hH.2.2.2.2.2.1), (hH.2.2.2.2.2.2).trans hq⟩
  clear hK
  refine wpSeq_take (d := 11) (v := ?_) rfl rfl (by kernel_rfl) (fun w hS => ?_) ?_
  rotate_left
  · go_simp <;> with_reducible rfl
  dsimp only [List.set_cons_zero, List.set_cons_succ]
  refine wpSeq_take (d := 12) (v := ?_) rfl rfl (by kernel_rfl) (fun w hS => ?_) ?_
  rotate_left
  · go_simp <;> with_reducible rfl
  dsimp only [List.set_cons_zero, List.set_cons_succ]
  refine wpSeq_done ?_
  refine NoPanic.normal ?_
  obtain ⟨p0, p1, p2, p3, p4, p5, qC⟩ := hH
  rename_i w9 _
  go_wp2_with fail
  refine (cp _).mono ?_
  rintro _ w3 ⟨rfl, q3⟩
  have r0 := ((B.refl w3).alloc #[.string ⟨#[112]⟩, .int .i64 R, .int .i64 C] 23).keep (q3.keep p0)
  have r1 := ((B.refl w3).alloc #[.string ⟨#[112]⟩, .int .i64 R, .int .i64 C] 23).keep (q3.keep p1)
  have r2 := ((B.refl w3).alloc #[.string ⟨#[112]⟩, .int .i64 R, .int .i64 C] 23).keep (q3.keep p2)
  have r3 := ((B.refl w3).alloc #[.string ⟨#[112]⟩, .int .i64 R, .int .i64 C] 23).keep (q3.keep p3)
  have r4 := ((B.refl w3).alloc #[.string ⟨#[112]⟩, .int .i64 R, .int .i64 C] 23).keep (q3.keep p4)
  have r5 := ((B.refl w3).alloc #[.string ⟨#[112]⟩, .int .i64 R, .int .i64 C] 23).keep (q3.keep p5)
  have hQ := Lib.hid ((qC.trans q3).alloc #[.string ⟨#[112]⟩, .int .i64 R, .int .i64 C] 23)
  clear qC q3 qB p0 p1 p2 p3 p4 p5 oA oE
  cases hr : (R == R2)
  · rw [hr, Bool.false_and] at hE
    go_wp2
    go_ret
    exact ⟨rfl, hQ.out⟩
  · cases hc : (C == C2)
    · rw [hr, hc, Bool.and_false] at hE
      go_wp2
      go_ret
      exact ⟨rfl, hQ.out⟩
    · rw [hr, hc, Bool.and_true] at hE
      go_wp2
      go_ret
      exact ⟨rfl, hQ.out⟩
end Go.Proofs.YtjcpabppklkjpaaDoor

namespace Go.Proofs.YtjcpabppklkjpaaDoor
open Go.RowKit
set_option linter.unusedVariables false
theorem each10_ok (a b c d : Int) (wa : (Lit.int .u8 a).wf = true) (wb : (Lit.int .u8 b).wf = true) (wc : (Lit.int .u8 c).wf = true) (wd : (Lit.int .u8 d).wf = true) (w : World) :
    Calls Tryd.prog 5 #[.int .u8 a, .int .u8 b, .int .u8 c, .int .u8 d] w fun e w' => e = .returned (.bool true) ∧ B w w' :=
  weach_any a b c d (u8_wf wa) (u8_wf wb) (u8_wf wc) (u8_wf wd) w
theorem refuses10_ok (k n : Int) (s : ByteArray) (wk : (Lit.int .u8 k).wf = true) (wn : (Lit.int .u16 n).wf = true) (w : World) :
    Calls Tryd.prog 6 #[.int .u8 k, .int .u16 n, .string s] w fun e w' => e = .returned (.bool true) ∧ B w w' :=
  wrefuses_any k n s.data.toList (u8_wf wk) (u16_wf wn) w
theorem tells10_ok (s0 s1 : ByteArray) (r c a b : Int) (s4 : ByteArray) (n : Int) (wr : (Lit.int .i64 r).wf = true) (wc : (Lit.int .i64 c).wf = true) (wa : (Lit.int .u8 a).wf = true) (wb : (Lit.int .u8 b).wf = true) (wn : (Lit.int .u16 n).wf = true) (w : World) :
    Calls Tryd.prog 3 #[.string s0, .agg #[.string s1, .int .i64 r, .int .i64 c], .int .u8 a, .int .u8 b, .string s4, .int .u16 n] w fun e w' => e = .returned (.bool true) ∧ B w w' :=
  wtells_any s0 s1 s4 r c a b n (i64_wf wr) (i64_wf wc) (u8_wf wa) (u8_wf wb) (u16_wf wn) w
theorem numbers10_ok (a b c d : Int) (s : ByteArray) (r c9 k : Int) (wa : (Lit.int .u8 a).wf = true) (wb : (Lit.int .u8 b).wf = true) (wc : (Lit.int .u8 c).wf = true) (wd : (Lit.int .u8 d).wf = true) (wr : (Lit.int .i64 r).wf = true) (wc9 : (Lit.int .i64 c9).wf = true) (wk : (Lit.int .i64 k).wf = true) (w : World) :
    Calls Tryd.prog 4 #[.int .u8 a, .int .u8 b, .int .u8 c, .int .u8 d, .agg #[.string s, .int .i64 r, .int .i64 c9], .int .i64 k] w fun e w' => e = .returned (.bool true) ∧ B w w' :=
  wnumbers_any s a b c d r k c9 (u8_wf wa) (u8_wf wb) (u8_wf wc) (u8_wf wd) (i64_wf wr) (i64_wf wc9) (i64_wf wk) w
end Go.Proofs.YtjcpabppklkjpaaDoor
