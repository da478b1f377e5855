/-
  Layer 7: TipTells over the code's own tables and levels.
-/
import Derived.Test.YtkiepmfknbbeaaaTabcode
import Derived.Test.YtkiepmfknbbeaaaL7tells
import Derived.Test.YtkiepmfknbbeaaaL7low
namespace Go.Proofs.Ytkiepmfknbbeaaa
open Go.RowKit

theorem tells7_ok (s : ByteArray) (cap filt err : Int) (vo : Value) (ls : List Sec) (k j : Int) (v : Value) (n : Nat) (rd : Bool) (vv z part depth nn : Int)
    (hk : (Lit.int .u8 k).wf = true) (hj : (Lit.int .u8 j).wf = true) (hvv : (Lit.int .i64 vv).wf = true) (hz : (Lit.int .i64 z).wf = true) (hpa : (Lit.int .i64 part).wf = true) (hde : (Lit.int .i64 depth).wf = true) (hnn : (Lit.int .u32 nn).wf = true) (w : World) (hvo : IsSecs w vo ls) (hv : IsU16 w v n) :
    Calls Try.prog 3 #[.agg #[.string s, .int .i64 cap, .int .i64 filt, .int .i64 err, vo], .int .u8 k, .int .u8 j, v, .bool rd, .int .i64 vv, .int .i64 z, .int .i64 part, .int .i64 depth, .int .u32 nn] w fun e w' => e = .returned (.bool true) ∧ B w w' :=
  tells7_law tab_code s cap filt err vo ls k j v n rd vv z part depth nn hk hj hvv hz hpa hde hnn w hvo hv
end Go.Proofs.Ytkiepmfknbbeaaa
