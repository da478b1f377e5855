/-
  The document's own areas.
-/
import Derived.Test.YtkiepmfknbbeaaaR3side
import Derived.Test.YtkiepmfknbbeaaaTabm
namespace Go.Proofs.Ytkiepmfknbbeaaa
open Go.RowKit

theorem r3area_any (r : Bool) (a b : Int) (up : Bool) (h0 : 0 ≤ a) (h1 : a ≤ 20000) (h2 : 0 ≤ b) (h3 : b ≤ 20000) (w : World) :
    Calls Try.prog 58 #[.bool r, .int .i64 a, .int .i64 b, .bool up] w fun e w' => e = .returned (.int .i64 (areaM r a b up)) ∧ w = w' := by
  have hm := mul_le h0 h1 h2 h3
  have hp := Int.mul_nonneg h0 h2
  have hs := mul_le h0 h1 h0 h1
  have hq := Int.mul_nonneg h0 h0
  unfold areaM
  cases r
  · have e1 : IntKind.i64.wrap (a * b) = a * b := wrapI (by omega) (by omega)
    go_enter Try.func58, Try.ntmps58
    go_wp2
    go_ret
    exact ⟨by simp, rfl⟩
  · obtain ⟨A, hA⟩ : ∃ A, a * a = A := ⟨_, rfl⟩
    rw [hA] at hs hq ⊢
    have e0 : IntKind.i64.wrap (a * a) = A := by rw [hA]; exact wrapI (by omega) (by omega)
    cases up
    · have e1 : IntKind.i64.wrap (A * 333) = A * 333 := wrapI (by omega) (by omega)
      have e2 : (A * 333).tdiv 424 = A * 333 / 424 := Int.tdiv_eq_ediv_of_nonneg (by omega)
      have e3 : IntKind.i64.wrap (A * 333 / 424) = A * 333 / 424 := wrapI (by omega) (by omega)
      generalize A * 333 / 424 = X at *
      clear hA hs hq hm hp
      go_enter Try.func58, Try.ntmps58
      go_wp2
      go_ret
      exact ⟨by simp, rfl⟩
    · have e1 : IntKind.i64.wrap (A * 355) = A * 355 := wrapI (by omega) (by omega)
      have e4 : IntKind.i64.wrap (A * 355 + 451) = A * 355 + 451 := wrapI (by omega) (by omega)
      have e2 : (A * 355 + 451).tdiv 452 = (A * 355 + 451) / 452 := Int.tdiv_eq_ediv_of_nonneg (by omega)
      have e3 : IntKind.i64.wrap ((A * 355 + 451) / 452) = (A * 355 + 451) / 452 := wrapI (by omega) (by omega)
      generalize (A * 355 + 451) / 452 = X at *
      clear hA hs hq hm hp
      go_enter Try.func58, Try.ntmps58
      go_wp2
      go_ret
      exact ⟨by simp, rfl⟩

theorem sideOf_any (s : Sec) (t : Int) (up : Bool) : 0 ≤ (sideOf s t up).1 ∧ (sideOf s t up).1 ≤ 20000 ∧ 0 ≤ (sideOf s t up).2 ∧ (sideOf s t up).2 ≤ 20000 := by
  unfold sideOf
  split
  · rename_i h
    obtain ⟨h1, h2, h3, h4, h5⟩ := h
    rw [inB_iff] at h2 h3 h4 h5
    obtain ⟨_, _, f1, f2⟩ := side_fits h2.1 h2.2 h3.1 h3.2 (show 0 ≤ min (max t 0) s.h by omega) (by omega) h1 up
    obtain ⟨_, _, g1, g2⟩ := side_fits h4.1 h4.2 h5.1 h5.2 (show 0 ≤ min (max t 0) s.h by omega) (by omega) h1 up
    refine ⟨by simp only; omega, by simp only; omega, ?_, ?_⟩
    · cases s.r <;> simp <;> omega
    · cases s.r <;> simp <;> omega
  · simp

end Go.Proofs.Ytkiepmfknbbeaaa
