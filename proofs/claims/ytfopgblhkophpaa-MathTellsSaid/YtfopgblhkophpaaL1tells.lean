/-
  Layer 1: the walk of MathTells.
-/
import Derived.Test.YtfopgblhkophpaaL1turns
import Derived.Test.YtfopgblhkophpaaRmath
namespace Go.Proofs.Ytfopgblhkophpaa
open Go.RowKit

theorem tells_law (a b k j : Int) (wa : (Lit.int .i64 a).wf = true) (wb : (Lit.int .i64 b).wf = true) (wk : (Lit.int .u8 k).wf = true) (wj : (Lit.int .u8 j).wf = true) (w : World) :
    Calls Try.prog 3 #[.int .i64 a, .int .i64 b, .int .u8 k, .int .u8 j] w fun e w' => e = .returned (.bool true) ∧ Grown w w' := by
  have c1 := fun w => near_any a k (i64_wf wa) (u8_range wk) w
  have c2 := fun w => near_any b j (i64_wf wb) (u8_range wj) w
  clear wa wb wk wj
  go_enter Try.func3, Try.ntmps3
  go_wp2_with fail
  refine (known_any _).mono ?_
  rintro e w1 ⟨rfl, h1⟩
  go_wp2_with fail
  refine (c1 _).mono ?_
  rintro e w2 ⟨x, hx, rfl, h2⟩
  go_wp2_with fail
  refine (c2 _).mono ?_
  rintro e w3 ⟨y, hy, rfl, h3⟩
  clear c1 c2
  have d1 := fun w => add_any x y hx hy w
  have d2 := fun w => radd_any x y hx hy w
  have d3 := fun w => sub_any x y hx hy w
  have d4 := fun w => rsub_any x y hx hy w
  have d5 := fun w => mul_any x y hx hy w
  have d6 := fun w => rmul_any x y hx hy w
  clear hx hy
  go_wp2_with fail
  refine (d1 _).mono ?_
  rintro e w4 ⟨rfl, rfl⟩
  go_wp2_with fail
  refine (d2 _).mono ?_
  rintro e w4 ⟨rfl, rfl⟩
  go_wp2_with fail
  refine (d3 _).mono ?_
  rintro e w4 ⟨rfl, rfl⟩
  go_wp2_with fail
  refine (d4 _).mono ?_
  rintro e w4 ⟨rfl, rfl⟩
  go_wp2_with fail
  refine (d5 _).mono ?_
  rintro e w4 ⟨rfl, h4⟩
  go_wp2_with fail
  refine (d6 _).mono ?_
  rintro e w5 ⟨rfl, h5⟩
  go_wp2
  go_ret
  exact ⟨rfl, ((((h1.q.trans h2).trans h3).dr h4).trans h5).grown⟩
end Go.Proofs.Ytfopgblhkophpaa
