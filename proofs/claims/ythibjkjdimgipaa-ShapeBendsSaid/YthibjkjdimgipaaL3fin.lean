/-
  Layer 3: the three laws over the code's own shapes.
-/
import Derived.Test.YthibjkjdimgipaaShp
import Derived.Test.YthibjkjdimgipaaL3straight
import Derived.Test.YthibjkjdimgipaaL3bends
namespace Go.Proofs.Ythibjkjdimgipaa
open Go.RowKit

theorem ends_ok (v : Value) (n : Nat) (rd : Bool) (far : Int) (_hf : (Lit.int .i32 far).wf = true) (w : World) (hv : IsU16 w v n) :
    Calls Try.prog 5 #[v, .bool rd, .int .i32 far] w fun e w' => e = .returned (.bool true) ∧ B w w' :=
  ends_law side_code right_code height_code v n rd far w hv
theorem straight_ok (k at_ : Int) (v : Value) (n : Nat) (rd : Bool) (hk : (Lit.int .u8 k).wf = true) (ha : (Lit.int .u16 at_).wf = true) (w : World) (hv : IsU16 w v n) :
    Calls Try.prog 3 #[.int .u8 k, .int .u16 at_, v, .bool rd] w fun e w' => e = .returned (.bool true) ∧ B w w' :=
  straight_law side_code right_code height_code k at_ v n rd hk ha w hv
theorem bends_ok (k what v n : Int) (hk : (Lit.int .u8 k).wf = true) (hw : (Lit.int .u8 what).wf = true) (hv : (Lit.int .i64 v).wf = true) (hn : (Lit.int .u8 n).wf = true) (w : World) :
    Calls Try.prog 4 #[.int .u8 k, .int .u8 what, .int .i64 v, .int .u8 n] w fun e w' => e = .returned (.bool true) ∧ B w w' :=
  bends_law side_code right_code height_code k what v n hk hw hv hn w
end Go.Proofs.Ythibjkjdimgipaa
