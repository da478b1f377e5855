/-
  Numbers as texts. No program is named here.
-/
import Derived.Test.YtknpabijhmcjhaaNamem
import Derived.Lib.ItoaMem
import Derived.Lib.Strings
namespace Go.Proofs.Ytknpabijhmcjhaa
open Go.RowKit

/-- The number that the first k bytes make. -/
def valTo (s : ByteArray) : Nat → Nat
  | 0 => 0
  | k + 1 => valTo s k * 10 + (byteAt s k - 48)
def numOk (s : ByteArray) : Bool := decide (1 ≤ s.size) && !(decide (2 ≤ s.size) && decide (byteAt s 0 = 48)) && ((List.range s.size).all fun i => digN (byteAt s i)) && decide (valTo s s.size ≤ 1000000000000)
def numV (s : ByteArray) : Nat := if numOk s then valTo s s.size else 0
theorem digN_iff {n : Nat} : digN n = true ↔ 48 ≤ n ∧ n ≤ 57 := by unfold digN; simp
theorem numOk_iff {s : ByteArray} : numOk s = true ↔ 1 ≤ s.size ∧ ¬ (2 ≤ s.size ∧ byteAt s 0 = 48) ∧ (∀ i, i < s.size → digN (byteAt s i) = true) ∧ valTo s s.size ≤ 1000000000000 := by
  unfold numOk
  simp only [Bool.and_eq_true, decide_eq_true_eq, Bool.not_eq_true', List.all_eq_true, List.mem_range, Bool.and_eq_false_iff, decide_eq_false_iff_not]
  constructor
  · rintro ⟨⟨⟨h1, h2⟩, h3⟩, h4⟩
    exact ⟨h1, fun h => h2.elim (fun a => a h.1) (fun a => a h.2), h3, h4⟩
  · rintro ⟨h1, h2, h3, h4⟩
    refine ⟨⟨⟨h1, ?_⟩, h3⟩, h4⟩
    by_cases c : 2 ≤ s.size
    · exact .inr fun e => h2 ⟨c, e⟩
    · exact .inl c
theorem num_no {s : ByteArray} (h : ¬ (1 ≤ s.size ∧ ¬ (2 ≤ s.size ∧ byteAt s 0 = 48) ∧ (∀ i, i < s.size → digN (byteAt s i) = true) ∧ valTo s s.size ≤ 1000000000000)) : numOk s = false ∧ numV s = 0 := by
  have e : numOk s = false := by
    cases hh : numOk s
    · rfl
    · exact absurd (numOk_iff.1 hh) h
  refine ⟨e, ?_⟩
  unfold numV
  rw [e]
  rfl
theorem num_yes {s : ByteArray} (h : 1 ≤ s.size ∧ ¬ (2 ≤ s.size ∧ byteAt s 0 = 48) ∧ (∀ i, i < s.size → digN (byteAt s i) = true) ∧ valTo s s.size ≤ 1000000000000) : numOk s = true ∧ numV s = valTo s s.size := by
  have e := numOk_iff.2 h
  refine ⟨e, ?_⟩
  unfold numV
  rw [e]
  rfl
theorem valTo_mono (s : ByteArray) {k n : Nat} (h : k ≤ n) : valTo s k ≤ valTo s n := by
  obtain ⟨d, rfl⟩ : ∃ d, n = k + d := ⟨n - k, by omega⟩
  clear h
  induction d with
  | zero => exact Nat.le_refl _
  | succ d ih =>
    have : valTo s (k + (d + 1)) = valTo s (k + d) * 10 + (byteAt s (k + d) - 48) := rfl
    omega
theorem valTo_low (s : ByteArray) (h : 49 ≤ byteAt s 0) : ∀ k, 10 ^ k ≤ valTo s (k + 1)
  | 0 => by
    have : valTo s (0 + 1) = 0 * 10 + (byteAt s 0 - 48) := rfl
    rw [Nat.pow_zero]
    omega
  | k + 1 => by
    have ih := valTo_low s h k
    have : valTo s (k + 1 + 1) = valTo s (k + 1) * 10 + (byteAt s (k + 1) - 48) := rfl
    rw [Nat.pow_succ]
    omega
theorem valTo_high (s : ByteArray) : ∀ k, (∀ i, i < k → digN (byteAt s i) = true) → valTo s k < 10 ^ k
  | 0, _ => by show 0 < 10 ^ 0; decide
  | k + 1, h => by
    have ih := valTo_high s k fun i hi => h i (by omega)
    have hd := digN_iff.1 (h k (by omega))
    have : valTo s (k + 1) = valTo s k * 10 + (byteAt s k - 48) := rfl
    rw [Nat.pow_succ]
    omega
/-- Longer than thirteen digits none is one. -/
theorem num_long {s : ByteArray} (h : 13 < s.size) : numOk s = false ∧ numV s = 0 := by
  refine num_no fun ⟨h1, h2, h3, h4⟩ => ?_
  have hd := digN_iff.1 (h3 0 (by omega))
  have h5 : 49 ≤ byteAt s 0 := by
    have : byteAt s 0 ≠ 48 := fun e => h2 ⟨by omega, e⟩
    omega
  have h6 := valTo_low s h5 13
  have h7 := valTo_mono s (show 13 + 1 ≤ s.size by omega)
  have : (10 : Nat) ^ 13 = 10000000000000 := by decide
  omega
theorem num_first {s : ByteArray} (h : s.size ≠ 1) (h0 : byteAt s 0 = 48) : numOk s = false ∧ numV s = 0 := num_no fun ⟨h1, h2, _, _⟩ => h2 ⟨by omega, h0⟩
theorem num_bad {s : ByteArray} {i : Nat} (hi : i < s.size) (h : digN (byteAt s i) = false) : numOk s = false ∧ numV s = 0 := num_no fun ⟨_, _, h3, _⟩ => by rw [h3 i hi] at h; cases h
theorem num_big {s : ByteArray} {k : Nat} (hk : k ≤ s.size) (h : 1000000000000 < valTo s k) : numOk s = false ∧ numV s = 0 := num_no fun ⟨_, _, _, h4⟩ => by have := valTo_mono s hk; omega
theorem num_step {s : ByteArray} {k : Nat} (hd : digN (byteAt s k) = true) : ∃ d : Nat, byteAt s k = 48 + d ∧ d ≤ 9 ∧ valTo s (k + 1) = valTo s k * 10 + d := by
  have := digN_iff.1 hd
  exact ⟨byteAt s k - 48, by omega, by omega, rfl⟩
/-- As many digits as may be read. -/
theorem num_short {s : ByteArray} {k : Nat} (h1 : ¬ (2 ≤ s.size ∧ byteAt s 0 = 48)) (hk : k ≤ s.size) (hd : ∀ i, i < k → digN (byteAt s i) = true) (hv : valTo s k ≤ 1000000000000) : k ≤ 13 := by
  rcases Nat.lt_or_ge 13 k with h | h
  · have h0 := digN_iff.1 (hd 0 (by omega))
    have h5 : 49 ≤ byteAt s 0 := by
      have : byteAt s 0 ≠ 48 := fun e => h1 ⟨by omega, e⟩
      omega
    have h6 := valTo_low s h5 13
    have h7 := valTo_mono s (show 13 + 1 ≤ k by omega)
    have : (10 : Nat) ^ 13 = 10000000000000 := by decide
    omega
  · exact h
theorem toList_data (s : ByteArray) : s.toList = s.data.toList := Go.Lib.toList_data s
theorem toList_empty (s : ByteArray) : s.toList.isEmpty = decide (s.size < 1) := by
  rw [toList_data]
  obtain ⟨⟨l⟩⟩ := s
  cases l <;> simp [ByteArray.size]
theorem toList_zero (s : ByteArray) : (s.toList == [48]) = (decide (s.size = 1) && decide (byteAt s 0 = 48)) := by
  rw [toList_data]
  obtain ⟨⟨l⟩⟩ := s
  rcases l with _ | ⟨x, _ | ⟨y, l⟩⟩
  · rfl
  · have : (x == 48) = decide (x.toNat = 48) := by
      by_cases c : x = 48
      · subst c; rfl
      · have : x.toNat ≠ 48 := fun e => c (UInt8.toNat.inj e)
        simp [c, this]
    simp [ByteArray.size, byteAt, this]
  · simp [ByteArray.size]
end Go.Proofs.Ytknpabijhmcjhaa
