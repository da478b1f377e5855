/-
  Layer 7: TipBends over the code's own tables and levels.
-/
import Derived.Test.YtkiepmfknbbeaaaTabcode
import Derived.Test.YtkiepmfknbbeaaaL7bends
namespace Go.Proofs.Ytkiepmfknbbeaaa
open Go.RowKit

theorem bends7_ok (k what v : Int) (s : ByteArray) (hk : (Lit.int .u8 k).wf = true) (hw : (Lit.int .u8 what).wf = true) (_hv : (Lit.int .i64 v).wf = true) (w : World) :
    Calls Try.prog 6 #[.int .u8 k, .int .u8 what, .int .i64 v, .string s] w fun e w' => e = .returned (.bool true) ∧ B w w' :=
  bends_law tab_code k what v s hk hw w
end Go.Proofs.Ytkiepmfknbbeaaa
