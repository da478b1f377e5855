/-
  Contracts of the document's own sums and differences.
-/
import Derived.Test.YtehohogpnmokjaaChecked
import Derived.Test.YtehohogpnmokjaaQm
namespace Go.Proofs.Ytehohogpnmokjaa
open Go.RowKit

theorem same_test (p q : Prop) [Decidable p] [Decidable q] (b : Bool) (h : (p ↔ q) ↔ b = true) : (decide p == decide q) = b := by
  cases b
  · rw [beq_eq_false_iff_ne]
    intro c
    have : p ↔ q := by simpa using c
    exact absurd (h.1 this) (by decide)
  · rw [beq_iff_eq]
    have := h.2 rfl
    simpa using this

theorem rsum_yes (a b : Int) : (decide (a + b < a) == decide (b < 0)) = true := same_test _ _ _ (by simp; omega)
theorem rsum_no (a b : Int) (ha : I64 a) (hb : I64 b) (h : ¬ I64 (a + b)) : (decide (wrap64 (a + b) < a) == decide (b < 0)) = false :=
  same_test _ _ _ (by unfold I64 at *; unfold wrap64; simp; omega)
theorem rdif_yes (a b : Int) : (decide (a < a - b) == decide (b < 0)) = true := same_test _ _ _ (by simp; omega)
theorem rdif_no (a b : Int) (ha : I64 a) (hb : I64 b) (h : ¬ I64 (a - b)) : (decide (a < wrap64 (a - b)) == decide (b < 0)) = false :=
  same_test _ _ _ (by unfold I64 at *; unfold wrap64; simp; omega)

theorem radd_any (a b : Int) (ha : I64 a) (hb : I64 b) (w : World) :
    Calls Try.prog 24 #[.int .i64 a, .int .i64 b] w fun e w' => e = .returned (.tuple #[.int .i64 (qv (a + b)), .int .i64 (qe (a + b))]) ∧ w = w' := by
  by_cases h : I64 (a + b)
  · rw [qv_yes h, qe_yes h]
    have h2 := rsum_yes a b
    clear ha hb
    obtain ⟨g1, g2⟩ := h
    go_enter Try.func24, Try.ntmps24
    go_wp2
    go_ret2
    exact ⟨rfl, rfl⟩
  · rw [qv_no h, qe_no h]
    have h2 := rsum_no a b ha hb h
    clear ha hb h
    go_enter Try.func24, Try.ntmps24
    go_wp2
    go_ret2
    exact ⟨rfl, rfl⟩

theorem rsub_any (a b : Int) (ha : I64 a) (hb : I64 b) (w : World) :
    Calls Try.prog 27 #[.int .i64 a, .int .i64 b] w fun e w' => e = .returned (.tuple #[.int .i64 (qv (a - b)), .int .i64 (qe (a - b))]) ∧ w = w' := by
  by_cases h : I64 (a - b)
  · rw [qv_yes h, qe_yes h]
    have h2 := rdif_yes a b
    clear ha hb
    obtain ⟨g1, g2⟩ := h
    go_enter Try.func27, Try.ntmps27
    go_wp2
    go_ret2
    exact ⟨rfl, rfl⟩
  · rw [qv_no h, qe_no h]
    have h2 := rdif_no a b ha hb h
    clear ha hb h
    go_enter Try.func27, Try.ntmps27
    go_wp2
    go_ret2
    exact ⟨rfl, rfl⟩
end Go.Proofs.Ytehohogpnmokjaa
