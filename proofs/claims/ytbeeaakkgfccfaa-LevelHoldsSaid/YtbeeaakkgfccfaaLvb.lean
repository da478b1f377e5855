/-
  Plain mathematics of levels in a straight box. No program is named here.
-/
import Derived.Test.YtbeeaakkgfccfaaLvm
namespace Go.Proofs.Ytbeeaakkgfccfaa
open Go.RowKit

theorem right_one {s : Sec} (h : secOk s = true) : rightS [s] = true := by
  have := secOk_h s h
  unfold rightS
  simp [h, hsumI]
  omega
theorem cub_of {w : Int} (h0 : 0 ≤ w) (h1 : w ≤ 1000000000) : cubM w = w * 1000000 := by unfold cubM; omega
theorem box_low {P w : Int} {N : Nat} (hP : 1 ≤ P) (h0 : 0 ≤ w) (h1 : w ≤ 1000000000) (h2 : w ≤ P * (N : Int)) : lvLow (List.replicate N (1000000 * P, 1000000 * P)) w = w / P * 100 := by
  have q0 : 0 ≤ w / P := Int.ediv_nonneg h0 (by omega)
  have q1 : P * (w / P) ≤ w := Int.mul_ediv_self_le (by omega)
  have q2 : w < P * (w / P + 1) := by
    have := Int.lt_mul_ediv_self_add (x := w) (show 0 < P by omega)
    rw [Int.mul_add]; omega
  have q3 : w / P ≤ N := by
    have := Int.ediv_le_ediv (show 0 < P by omega) h2
    rwa [Int.mul_ediv_cancel_left _ (by omega)] at this
  generalize w / P = q at *
  obtain ⟨k, rfl⟩ : ∃ k : Nat, q = (k : Int) := ⟨q.toNat, by omega⟩
  have e : firstIx (List.replicate N (1000000 * P, 1000000 * P)).length (fun i => decide (cubM w < highT (List.replicate N (1000000 * P, 1000000 * P)) (i + 1))) = k := by
    rw [List.length_replicate]
    refine firstIx_is (by omega) (fun j hj => ?_) (fun hk => ?_)
    · rw [rep_high _ _ _ (by omega), cub_of h0 h1]
      have : P * ((j + 1 : Nat) : Int) ≤ P * (k : Int) := Int.mul_le_mul_of_nonneg_left (by omega) (by omega)
      simp only [decide_eq_false_iff_not, Int.not_lt]
      rw [Int.mul_assoc]
      omega
    · rw [rep_high _ _ _ (by omega), cub_of h0 h1]
      simp only [decide_eq_true_eq]
      rw [Int.mul_assoc]
      push_cast
      omega
  unfold lvLow
  rw [e, Int.mul_comm]
theorem box_high {P w : Int} {N : Nat} (hP : 1 ≤ P) (h0 : 0 ≤ w) (h1 : w ≤ 1000000000) (h2 : w ≤ P * (N : Int)) : lvHigh (List.replicate N (1000000 * P, 1000000 * P)) w = (w + P - 1) / P * 100 := by
  have q0 : 0 ≤ (w + P - 1) / P := Int.ediv_nonneg (by omega) (by omega)
  have q1 : P * ((w + P - 1) / P) ≤ w + P - 1 := Int.mul_ediv_self_le (by omega)
  have q2 : w ≤ P * ((w + P - 1) / P) := by
    have := Int.lt_mul_ediv_self_add (x := w + P - 1) (show 0 < P by omega)
    omega
  generalize (w + P - 1) / P = q at *
  obtain ⟨k, rfl⟩ : ∃ k : Nat, q = (k : Int) := ⟨q.toNat, by omega⟩
  have q3 : k ≤ N := by
    by_cases c : k ≤ N
    · exact c
    · have : P * ((N : Int) + 1) ≤ P * (k : Int) := Int.mul_le_mul_of_nonneg_left (by omega) (by omega)
      rw [Int.mul_add] at this
      omega
  have e : firstIx ((List.replicate N (1000000 * P, 1000000 * P)).length + 1) (fun i => decide (cubM w ≤ lowT (List.replicate N (1000000 * P, 1000000 * P)) i)) = k := by
    rw [List.length_replicate]
    refine firstIx_is (by omega) (fun j hj => ?_) (fun hk => ?_)
    · rw [rep_low _ _ _ (by omega), cub_of h0 h1]
      have : P * ((j : Int) + 1) ≤ P * (k : Int) := Int.mul_le_mul_of_nonneg_left (by omega) (by omega)
      rw [Int.mul_add] at this
      simp only [decide_eq_false_iff_not, Int.not_le]
      rw [Int.mul_assoc]
      omega
    · rw [rep_low _ _ _ q3, cub_of h0 h1]
      simp only [decide_eq_true_eq]
      rw [Int.mul_assoc]
      omega
  unfold lvHigh
  rw [e, Int.mul_comm]
theorem box_true {x w : Int} {N : Nat} (part : Int) (hx : 1 ≤ x) (h0 : 0 ≤ w) (h1 : w ≤ 1000000000) :
    (x * 100 * (N : Int) < w → lvTrue (List.replicate N (1000000 * (x * 100), 1000000 * (x * 100))) w part = 100 * (N : Int) + 1) ∧
    (w ≤ x * 100 * (N : Int) → lvTrue (List.replicate N (1000000 * (x * 100), 1000000 * (x * 100))) w part = w / x) := by
  have ht : ∀ i : Nat, i ≤ N → trI (List.replicate N (1000000 * (x * 100), 1000000 * (x * 100))) part i = x * 100 * (i : Int) * 1000000 := fun i hi => by
    unfold trI
    rw [rep_low _ _ _ hi, rep_high _ _ _ hi, true_same]
    show 1000000 * (x * 100) * (i : Int) = _
    rw [Int.mul_assoc 1000000, Int.mul_comm 1000000]
  have hn := ht N (Nat.le_refl _)
  have hz := trI_zero (List.replicate N (1000000 * (x * 100), 1000000 * (x * 100))) part
  unfold lvTrue
  rw [List.length_replicate, cub_of h0 h1]
  generalize trI (List.replicate N (1000000 * (x * 100), 1000000 * (x * 100))) part = t at *
  constructor
  · intro h
    exact (lvT_bnd hz (by omega)).2.2.2 (by omega)
  · intro h
    by_cases c : w = 0
    · subst c
      unfold lvT
      rw [if_neg (by omega), if_pos (by omega)]
      simp
    · obtain ⟨i, _, i2, i3, i4, e⟩ := lvT_mid (t := t) (n := N) (x := w * 1000000) hz (by omega) (by omega)
      rw [e, ht i (by omega), ht (i + 1) i2]
      rw [ht i (by omega)] at i3
      have e1 : (w * 1000000 - x * 100 * (i : Int) * 1000000) * 100 = (w - x * (100 * (i : Int))) * (100 * 1000000) := by
        rw [Int.mul_assoc x 100]
        generalize x * (100 * (i : Int)) = y
        omega
      have e2 : x * 100 * ((i + 1 : Nat) : Int) * 1000000 - x * 100 * (i : Int) * 1000000 = x * (100 * 1000000) := by
        push_cast
        rw [Int.mul_add]
        omega
      rw [e1, e2, Int.mul_ediv_mul_of_pos_left _ _ (by omega)]
      have e3 : w - x * (100 * (i : Int)) = w + x * (-(100 * (i : Int))) := by rw [Int.mul_neg]; omega
      rw [e3, Int.add_mul_ediv_left _ _ (by omega)]
      omega
end Go.Proofs.Ytbeeaakkgfccfaa
