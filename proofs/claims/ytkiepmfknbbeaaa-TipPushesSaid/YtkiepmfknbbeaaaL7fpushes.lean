/-
  Layer 7: TipPushes over the code's own tables and levels.
-/
import Derived.Test.YtkiepmfknbbeaaaTabcode
import Derived.Test.YtkiepmfknbbeaaaL7pushes
namespace Go.Proofs.Ytkiepmfknbbeaaa
open Go.RowKit

theorem pushes_ok (j a b : Int) (hj : (Lit.int .u8 j).wf = true) (ha : (Lit.int .u16 a).wf = true) (hb : (Lit.int .u16 b).wf = true) (w : World) :
    Calls Try.prog 5 #[.int .u8 j, .int .u16 a, .int .u16 b] w fun e w' => e = .returned (.bool true) ∧ B w w' :=
  pushes_law tab_code j a b hj ha hb w
end Go.Proofs.Ytkiepmfknbbeaaa
