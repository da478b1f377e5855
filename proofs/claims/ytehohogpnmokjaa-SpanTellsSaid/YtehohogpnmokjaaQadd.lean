/-
  Contracts of layer 1's sums and differences.
-/
import Derived.Test.YtehohogpnmokjaaChecked
import Derived.Test.YtehohogpnmokjaaQm
namespace Go.Proofs.Ytehohogpnmokjaa
open Go.RowKit

theorem add_any (a b : Int) (ha : I64 a) (hb : I64 b) (w : World) :
    Calls Try.prog 23 #[.int .i64 a, .int .i64 b] w fun e w' => e = .returned (.tuple #[.int .i64 (qv (a + b)), .int .i64 (qe (a + b))]) ∧ w = w' := by
  obtain ⟨h1, h2⟩ := add_over a b ha hb
  by_cases h : I64 (a + b)
  · rw [qv_yes h, qe_yes h]
    have h2' := h2 h
    have h3 : ¬ _ := fun x => (h1.1 x) h
    have hh : -9223372036854775808 ≤ a + b ∧ a + b ≤ 9223372036854775807 := h
    clear h1 h2 ha hb h
    rw [h2'] at h3
    clear h2'
    obtain ⟨hl, hr⟩ := hh
    go_enter Try.func23, Try.ntmps23
    go_wp2
    go_ret2
    exact ⟨rfl, rfl⟩
  · rw [qv_no h, qe_no h]
    have h3 := h1.2 h
    clear h1 h2 ha hb h
    go_enter Try.func23, Try.ntmps23
    go_wp2
    go_ret2
    exact ⟨rfl, rfl⟩

theorem sub_any (a b : Int) (ha : I64 a) (hb : I64 b) (w : World) :
    Calls Try.prog 26 #[.int .i64 a, .int .i64 b] w fun e w' => e = .returned (.tuple #[.int .i64 (qv (a - b)), .int .i64 (qe (a - b))]) ∧ w = w' := by
  obtain ⟨h1, h2⟩ := sub_over a b ha hb
  by_cases h : I64 (a - b)
  · rw [qv_yes h, qe_yes h]
    have h2' := h2 h
    have h3 : ¬ _ := fun x => (h1.1 x) h
    have hh : -9223372036854775808 ≤ a - b ∧ a - b ≤ 9223372036854775807 := h
    clear h1 h2 ha hb h
    rw [h2'] at h3
    clear h2'
    obtain ⟨hl, hr⟩ := hh
    go_enter Try.func26, Try.ntmps26
    go_wp2
    go_ret2
    exact ⟨rfl, rfl⟩
  · rw [qv_no h, qe_no h]
    have h3 := h1.2 h
    clear h1 h2 ha hb h
    go_enter Try.func26, Try.ntmps26
    go_wp2
    go_ret2
    exact ⟨rfl, rfl⟩
end Go.Proofs.Ytehohogpnmokjaa
