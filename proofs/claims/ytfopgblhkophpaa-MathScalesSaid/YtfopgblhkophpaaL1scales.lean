/-
  Layer 1: the walk of MathScales.
-/
import Derived.Test.YtfopgblhkophpaaL1a
import Derived.Test.YtfopgblhkophpaaQlaw
namespace Go.Proofs.Ytfopgblhkophpaa
open Go.RowKit

theorem scales_law (a b : Int) (up : Bool) (wa : (Lit.int .i64 a).wf = true) (wb : (Lit.int .i64 b).wf = true) (w : World) :
    Calls Try.prog 10 #[.int .i64 a, .int .i64 b, .bool up] w fun e w' => e = .returned (.bool true) ∧ Grown w w' := by
  have ia := i64_wf wa
  have ib := i64_wf wb
  clear wa wb
  by_cases hb : b = 0
  · subst hb
    clear ia ib
    go_enter Try.func10, Try.ntmps10
    go_wp2_with fail
    refine (known_any _).mono ?_
    rintro e w1 ⟨rfl, h1⟩
    go_wp2
    go_ret
    exact ⟨rfl, h1.q.grown⟩
  · have c1 := fun w => muldiv_any a b b up ia ib ib w
    have c2 := fun w => muldiv_any b a b (!up) ib ia ib w
    rw [(mv_scale a b up hb ia).1, (mv_scale a b up hb ia).2] at c1
    rw [(mv_scale' a b (!up) hb ia).1, (mv_scale' a b (!up) hb ia).2] at c2
    have hB : (b == 0) = false := by simpa using hb
    clear ia ib hb
    go_enter Try.func10, Try.ntmps10
    go_wp2_with fail
    refine (known_any _).mono ?_
    rintro e w1 ⟨rfl, h1⟩
    go_wp2_with fail
    refine (c1 _).mono ?_
    rintro e w2 ⟨rfl, h2⟩
    go_wp2_with fail
    refine (c2 _).mono ?_
    rintro e w3 ⟨rfl, h3⟩
    go_wp2
    go_ret
    exact ⟨rfl, ((h1.trans h2).trans h3).q.grown⟩
end Go.Proofs.Ytfopgblhkophpaa
