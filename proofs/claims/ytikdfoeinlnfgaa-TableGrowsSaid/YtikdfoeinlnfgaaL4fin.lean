/-
  Layer 4: the six laws over the code's own tables (XTabcode: tab_code, area_code).
-/
import Derived.Test.YtikdfoeinlnfgaaTabcode
import Derived.Test.YtikdfoeinlnfgaaL4boxes
import Derived.Test.YtikdfoeinlnfgaaL4grows
import Derived.Test.YtikdfoeinlnfgaaL4sums
import Derived.Test.YtikdfoeinlnfgaaL4tells
namespace Go.Proofs.Ytikdfoeinlnfgaa
open Go.RowKit

theorem tells_ok (v0 : Value) (l0 : List Sec) (k : Int) (v : Value) (n : Nat) (rd : Bool) (at_ part : Int) (hk : (Lit.int .u8 k).wf = true) (hat : (Lit.int .i64 at_).wf = true) (hpt : (Lit.int .i64 part).wf = true) (w : World) (h0 : IsSecs w v0 l0) (hv : IsU16 w v n) :
    Calls Try.prog 3 #[v0, .int .u8 k, v, .bool rd, .int .i64 at_, .int .i64 part] w fun e w' => e = .returned (.bool true) ∧ B w w' :=
  tells_law tab_code area_code v0 l0 k v n rd at_ part hk hat hpt w h0 hv
theorem rises_ok (k : Int) (v : Value) (n : Nat) (rd : Bool) (pa ot : Int) (hk : (Lit.int .u8 k).wf = true) (hp : (Lit.int .u16 pa).wf = true) (ho : (Lit.int .u16 ot).wf = true) (w : World) (hv : IsU16 w v n) :
    Calls Try.prog 4 #[.int .u8 k, v, .bool rd, .int .u16 pa, .int .u16 ot] w fun e w' => e = .returned (.bool true) ∧ B w w' :=
  rises_law tab_code k v n rd pa ot hk hp ho w hv
theorem round_ok (d n : Int) (hd : (Lit.int .u16 d).wf = true) (hn : (Lit.int .u8 n).wf = true) (w : World) :
    Calls Try.prog 5 #[.int .u16 d, .int .u8 n] w fun e w' => e = .returned (.bool true) ∧ B w w' :=
  round_law tab_code d n hd hn w
theorem sums_ok (k j : Int) (hk : (Lit.int .u8 k).wf = true) (hj : (Lit.int .u8 j).wf = true) (w : World) :
    Calls Try.prog 6 #[.int .u8 k, .int .u8 j] w fun e w' => e = .returned (.bool true) ∧ B w w' :=
  sums_law tab_code k j hk hj w
theorem boxes_ok (a b n part : Int) (ha : (Lit.int .u16 a).wf = true) (hb0 : (Lit.int .u16 b).wf = true) (hn : (Lit.int .u8 n).wf = true) (hp : (Lit.int .i64 part).wf = true) (w : World) :
    Calls Try.prog 7 #[.int .u16 a, .int .u16 b, .int .u8 n, .int .i64 part] w fun e w' => e = .returned (.bool true) ∧ B w w' :=
  boxes_law tab_code a b n part ha hb0 hn hp w
theorem grows_ok (v : Value) (n : Nat) (rd : Bool) (by_ : Int) (hp : (Lit.int .u16 by_).wf = true) (w : World) (hv : IsU16 w v n) :
    Calls Try.prog 8 #[v, .bool rd, .int .u16 by_] w fun e w' => e = .returned (.bool true) ∧ B w w' :=
  grows_law tab_code v n rd by_ hp w hv
end Go.Proofs.Ytikdfoeinlnfgaa
