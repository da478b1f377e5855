/-
  Layer 7: TipLifts over the code's own tables and levels.
-/
import Derived.Test.YtkiepmfknbbeaaaTabcode
import Derived.Test.YtkiepmfknbbeaaaL7lifts
namespace Go.Proofs.Ytkiepmfknbbeaaa
open Go.RowKit

theorem lifts_ok (k j : Int) (v : Value) (n : Nat) (rd : Bool) (nn z part : Int) (hk : (Lit.int .u8 k).wf = true) (hj : (Lit.int .u8 j).wf = true) (hn : (Lit.int .u32 nn).wf = true) (hz : (Lit.int .u16 z).wf = true) (hp : (Lit.int .u16 part).wf = true) (w : World) (hv : IsU16 w v n) :
    Calls Try.prog 4 #[.int .u8 k, .int .u8 j, v, .bool rd, .int .u32 nn, .int .u16 z, .int .u16 part] w fun e w' => e = .returned (.bool true) ∧ B w w' :=
  lifts_law tab_code k j v n rd nn z part hk hj hn hz hp w hv
end Go.Proofs.Ytkiepmfknbbeaaa
