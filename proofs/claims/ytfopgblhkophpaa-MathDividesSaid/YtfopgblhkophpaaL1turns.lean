/-
  Layer 1: the walk of MathTurns.
-/
import Derived.Test.YtfopgblhkophpaaL1a
import Derived.Test.YtfopgblhkophpaaL1b
namespace Go.Proofs.Ytfopgblhkophpaa
open Go.RowKit

theorem u8_range {k : Int} (w : (Lit.int .u8 k).wf = true) : 0 ≤ k ∧ k ≤ 255 := by
  simp [Lit.wf, IntKind.min, IntKind.max, IntKind.signed, IntKind.bits] at w
  omega

theorem turns_law (a b k j : Int) (wa : (Lit.int .i64 a).wf = true) (wb : (Lit.int .i64 b).wf = true) (wk : (Lit.int .u8 k).wf = true) (wj : (Lit.int .u8 j).wf = true) (w : World) :
    Calls Try.prog 7 #[.int .i64 a, .int .i64 b, .int .u8 k, .int .u8 j] w fun e w' => e = .returned (.bool true) ∧ Grown w w' := by
  have c1 := fun w => near_any a k (i64_wf wa) (u8_range wk) w
  have c2 := fun w => near_any b j (i64_wf wb) (u8_range wj) w
  clear wa wb wk wj
  go_enter Try.func7, Try.ntmps7
  go_wp2_with fail
  refine (known_any _).mono ?_
  rintro e w1 ⟨rfl, h1⟩
  go_wp2_with fail
  refine (c1 _).mono ?_
  rintro e w2 ⟨x, hx, rfl, h2⟩
  go_wp2_with fail
  refine (c2 _).mono ?_
  rintro e w3 ⟨y, hy, rfl, h3⟩
  clear c1 c2
  have d1 := fun w => add_any x y hx hy w
  have d2 := fun w => add_any y x hy hx w
  have d3 := fun w => mul_any x y hx hy w
  have d4 := fun w => mul_any y x hy hx w
  rw [Int.add_comm y x] at d2
  rw [Int.mul_comm y x] at d4
  generalize hP : qv (x * y) = P at *
  generalize hE : qe (x * y) = E at *
  clear hP hE
  by_cases h : I64 (x + y)
  · rw [qv_yes h, qe_yes h] at d1 d2
    have d5 := fun w => sub_any (x + y) y h hy w
    rw [show x + y - y = x by omega, qv_yes hx, qe_yes hx] at d5
    clear h hx hy
    go_wp2_with fail
    refine (d1 _).mono ?_
    rintro e w4 ⟨rfl, rfl⟩
    go_wp2_with fail
    refine (d2 _).mono ?_
    rintro e w5 ⟨rfl, rfl⟩
    go_wp2_with fail
    refine (d3 _).mono ?_
    rintro e w6 ⟨rfl, h6⟩
    go_wp2_with fail
    refine (d4 _).mono ?_
    rintro e w7 ⟨rfl, h7⟩
    go_wp2_with fail
    refine (d5 _).mono ?_
    rintro e w8 ⟨rfl, rfl⟩
    go_wp2
    go_ret
    exact ⟨rfl, ((((h1.q.trans h2).trans h3).dr h6).dr h7).grown⟩
  · rw [qv_no h, qe_no h] at d1 d2
    clear h hx hy
    go_wp2_with fail
    refine (d1 _).mono ?_
    rintro e w4 ⟨rfl, rfl⟩
    go_wp2_with fail
    refine (d2 _).mono ?_
    rintro e w5 ⟨rfl, rfl⟩
    go_wp2_with fail
    refine (d3 _).mono ?_
    rintro e w6 ⟨rfl, h6⟩
    go_wp2_with fail
    refine (d4 _).mono ?_
    rintro e w7 ⟨rfl, h7⟩
    go_wp2
    go_ret
    exact ⟨rfl, ((((h1.q.trans h2).trans h3).dr h6).dr h7).grown⟩
end Go.Proofs.Ytfopgblhkophpaa
