/-
  Plain facts of sections that may be. No program is named here.
-/
import Derived.Test.YtkiepmfknbbeaaaSec
namespace Go.Proofs.Ytkiepmfknbbeaaa
open Go.RowKit

theorem wrapI {z : Int} (h1 : -9223372036854775808 ≤ z) (h2 : z ≤ 9223372036854775807) : IntKind.i64.wrap z = z := by
  rw [IntKind.wrap_i64]; omega
theorem inB_iff {v a b : Int} : inB v a b = true ↔ a ≤ v ∧ v ≤ b := by unfold inB; simp
theorem secOk_all {s : Sec} (h : secOk s = true) : 1 ≤ s.h ∧ s.h ≤ 60000 ∧ 0 ≤ s.a0 ∧ s.a0 ≤ 20000 ∧ 1 ≤ s.a1 ∧ s.a1 ≤ 20000 ∧ 0 ≤ s.b0 ∧ s.b0 ≤ 20000 ∧ 0 ≤ s.b1 ∧ s.b1 ≤ 20000 ∧ (s.r = true → s.b0 = 0 ∧ s.b1 = 0) := by
  unfold secOk at h
  simp only [Bool.and_eq_true, decide_eq_true_eq, inB_iff] at h
  obtain ⟨⟨⟨⟨⟨h1, h2⟩, _⟩, h4, h5⟩, h6, h7⟩, h8⟩ := h
  cases hr : s.r
  · rw [hr, if_neg (by decide)] at h8
    simp only [Bool.and_eq_true, inB_iff] at h8
    refine ⟨h1, h2, h4, h5, h6, h7, by omega, by omega, by omega, by omega, by simp⟩
  · rw [hr, if_pos rfl] at h8
    simp only [Bool.and_eq_true, decide_eq_true_eq] at h8
    refine ⟨h1, h2, h4, h5, h6, h7, by omega, by omega, by omega, by omega, fun _ => h8⟩
theorem right_all {l : List Sec} (h : rightS l = true) : 1 ≤ l.length ∧ l.length ≤ 4 ∧ ∀ s ∈ l, secOk s = true := by
  unfold rightS at h
  simp only [Bool.and_eq_true, decide_eq_true_eq] at h
  exact ⟨h.1.1.1, h.1.1.2, List.all_eq_true.1 h.1.2⟩
theorem IsU16.form {w : World} {v : Value} {n : Nat} (h : IsU16 w v n) : ∃ ao cap, v = .slice ao n cap ∧ n ≤ 9223372036854775807 := by
  rcases h with ⟨rfl, rfl⟩ | ⟨a, cap, rfl, h1, h2, _⟩
  · exact ⟨_, _, rfl, by omega⟩
  · exact ⟨_, _, rfl, by unfold maxLen at h2; omega⟩
theorem IsU16.keepB {w w' : World} {v : Value} {n : Nat} (h : IsU16 w v n) (q : B w w') : IsU16 w' v n := by
  rcases h with h | ⟨a, cap, h1, h2, h3, h4⟩
  · exact .inl h
  · exact .inr ⟨a, cap, h1, h2, h3, fun i hi => by obtain ⟨x, a1, a2, a3⟩ := h4 i hi; exact ⟨x, a1, a2, q.keep a3⟩⟩
end Go.Proofs.Ytkiepmfknbbeaaa
