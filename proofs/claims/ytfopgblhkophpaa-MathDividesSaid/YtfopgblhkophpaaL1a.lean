/-
  Layer 1: what the statements' helps answer: 'known' is true; 'near' answers a number of 64 bits.
-/
import Derived.Test.YtfopgblhkophpaaQadd
import Derived.Test.YtfopgblhkophpaaQmulw
import Derived.Test.YtfopgblhkophpaaQrootw
namespace Go.Proofs.Ytfopgblhkophpaa
open Go.RowKit

theorem known_any (w : World) : Calls Try.prog 11 #[] w fun e w' => e = .returned (.bool true) ∧ Dr w w' := by
  have i1 : I64 7 := by decide
  have e1 : mv 7 1 2 true = 4 ∧ me 7 1 2 true = 0 := by decide
  have e2 : mv (-7) 1 2 true = -3 ∧ me (-7) 1 2 true = 0 := by decide
  have e3 : qv (4611686018427387904 + 4611686018427387904) = 0 ∧ qe (4611686018427387904 + 4611686018427387904) = 21 := by decide
  have e4 : rv 3 28 false = 3 ∧ re 28 = 0 := by
    have : 3 = rootOf 3 28 := rootOf_eq (by omega) (by decide) (by decide)
    have h : rootUp 3 28 false = rootOf 3 28 := by unfold rootUp; rw [Bool.false_and, if_neg (by decide)]
    refine ⟨?_, rfl⟩
    rw [rv, if_neg (by decide), show (28 : Int).toNat = 28 from rfl, h, ← this]
    rfl
  have c1 := fun w => muldiv_any 7 1 2 true (by decide) (by decide) (by decide) w
  have c2 := fun w => muldiv_any (-7) 1 2 true (by decide) (by decide) (by decide) w
  have c3 := fun w => add_any 4611686018427387904 4611686018427387904 (by decide) (by decide) w
  have c4 := fun w => cbrt_any 28 false (by decide) w
  rw [e1.1, e1.2] at c1
  rw [e2.1, e2.2] at c2
  rw [e3.1, e3.2] at c3
  rw [e4.1, e4.2] at c4
  clear e1 e2 e3 e4 i1
  go_enter Try.func11, Try.ntmps11
  go_wp2_with fail
  refine (c1 _).mono ?_
  rintro e w1 ⟨rfl, h1⟩
  go_wp2_with fail
  refine (c2 _).mono ?_
  rintro e w2 ⟨rfl, h2⟩
  go_wp2_with fail
  refine (c3 _).mono ?_
  rintro e w3 ⟨rfl, rfl⟩
  go_wp2_with fail
  refine (c4 _).mono ?_
  rintro e w4 ⟨rfl, rfl⟩
  go_wp2
  go_ret
  exact ⟨rfl, h1.trans h2⟩
end Go.Proofs.Ytfopgblhkophpaa
