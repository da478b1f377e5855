/-
  Names: which strings are. No program is named here.
-/
import Derived.WalkKit
import Derived.RowKit3
namespace Go.Proofs.Ytknpabijhmcjhaa
open Go.RowKit

/-- The i-th byte. -/
def byteAt (s : ByteArray) (i : Nat) : Nat := (s.data.toList.getD i 0).toNat
def lowN (n : Nat) : Bool := decide (97 ≤ n) && decide (n ≤ 122)
def digN (n : Nat) : Bool := decide (48 ≤ n) && decide (n ≤ 57)
/-- A name: a letter, then letters and digits, sixteen at most. -/
def nameS (s : ByteArray) : Bool := decide (1 ≤ s.size) && decide (s.size ≤ 16) && lowN (byteAt s 0) && (List.range s.size).all fun i => lowN (byteAt s i) || digN (byteAt s i)
theorem byteAt_lt (s : ByteArray) (i : Nat) : byteAt s i < 256 := by
  unfold byteAt
  exact UInt8.toNat_lt _
theorem byteAt_get (s : ByteArray) (i : Nat) (h : i < s.size) : (s[i]'h).toNat = byteAt s i := by
  obtain ⟨⟨l⟩⟩ := s
  have h' : i < l.length := h
  show l[i].toNat = (l.getD i 0).toNat
  rw [List.getD_eq_getElem?_getD, List.getElem?_eq_getElem h']
  rfl
theorem nameS_size {s : ByteArray} (h : s.size < 1 ∨ 16 < s.size) : nameS s = false := by
  unfold nameS
  rcases h with h | h
  · rw [decide_eq_false (show ¬ 1 ≤ s.size by omega)]; simp
  · rw [decide_eq_false (show ¬ s.size ≤ 16 by omega)]; simp
theorem nameS_first {s : ByteArray} (h : lowN (byteAt s 0) = false) : nameS s = false := by
  unfold nameS; rw [h]; simp
theorem nameS_bad {s : ByteArray} {i : Nat} (hi : i < s.size) (h : (lowN (byteAt s i) || digN (byteAt s i)) = false) : nameS s = false := by
  have : ((List.range s.size).all fun i => lowN (byteAt s i) || digN (byteAt s i)) = false := by
    rw [List.all_eq_false]
    exact ⟨i, List.mem_range.2 hi, by simpa using h⟩
  unfold nameS; rw [this]; simp
theorem nameS_good {s : ByteArray} (h1 : 1 ≤ s.size) (h2 : s.size ≤ 16) (h3 : lowN (byteAt s 0) = true) (h : ∀ i, i < s.size → (lowN (byteAt s i) || digN (byteAt s i)) = true) : nameS s = true := by
  unfold nameS
  rw [decide_eq_true h1, decide_eq_true h2, h3]
  simp only [Bool.true_and]
  exact List.all_eq_true.2 fun i hi => h i (List.mem_range.1 hi)
end Go.Proofs.Ytknpabijhmcjhaa
