/-
  Layer 5: the six laws over the code's own tables and levels (XTabcode: tab_code; XLvcode: lv_code, vol_code, nil_code).
-/
import Derived.Test.YtbeeaakkgfccfaaTabcode
import Derived.Test.YtbeeaakkgfccfaaLvcode
import Derived.Test.YtbeeaakkgfccfaaL5parts
import Derived.Test.YtbeeaakkgfccfaaL5holds
import Derived.Test.YtbeeaakkgfccfaaL5back
import Derived.Test.YtbeeaakkgfccfaaL5ends
import Derived.Test.YtbeeaakkgfccfaaL5tells
import Derived.Test.YtbeeaakkgfccfaaL5boxes
namespace Go.Proofs.Ytbeeaakkgfccfaa
open Go.RowKit

theorem lv_code : LvC CTab := lv_of tab_code
theorem vol_code : VolC CTab := vol_of tab_code

theorem lvtells_ok (k : Int) (v : Value) (n : Nat) (rd : Bool) (vv part hh nn : Int) (hk : (Lit.int .u8 k).wf = true) (h1 : (Lit.int .i64 vv).wf = true) (h2 : (Lit.int .i64 part).wf = true) (h3 : (Lit.int .i64 hh).wf = true) (h4 : (Lit.int .u32 nn).wf = true) (w : World) (hv : IsU16 w v n) :
    Calls Try.prog 3 #[.int .u8 k, v, .bool rd, .int .i64 vv, .int .i64 part, .int .i64 hh, .int .u32 nn] w fun e w' => e = .returned (.bool true) ∧ B w w' :=
  lvtells_law tab_code lv_code vol_code nil_code k v n rd vv part hh nn hk h1 h2 h3 h4 w hv
theorem holds_ok (k : Int) (v : Value) (n : Nat) (rd : Bool) (nn more part : Int) (hk : (Lit.int .u8 k).wf = true) (h1 : (Lit.int .u32 nn).wf = true) (h2 : (Lit.int .u16 more).wf = true) (h3 : (Lit.int .u16 part).wf = true) (w : World) (hv : IsU16 w v n) :
    Calls Try.prog 4 #[.int .u8 k, v, .bool rd, .int .u32 nn, .int .u16 more, .int .u16 part] w fun e w' => e = .returned (.bool true) ∧ B w w' :=
  holds_law tab_code lv_code vol_code k v n rd nn more part hk h1 h2 h3 w hv
theorem back_ok (k : Int) (v : Value) (n : Nat) (rd : Bool) (at_ : Int) (hk : (Lit.int .u8 k).wf = true) (h1 : (Lit.int .u16 at_).wf = true) (w : World) (hv : IsU16 w v n) :
    Calls Try.prog 5 #[.int .u8 k, v, .bool rd, .int .u16 at_] w fun e w' => e = .returned (.bool true) ∧ B w w' :=
  back_law tab_code lv_code vol_code k v n rd at_ hk h1 w hv
theorem ends_ok (k : Int) (v : Value) (n : Nat) (rd : Bool) (part more : Int) (hk : (Lit.int .u8 k).wf = true) (h1 : (Lit.int .u16 part).wf = true) (h2 : (Lit.int .u32 more).wf = true) (w : World) (hv : IsU16 w v n) :
    Calls Try.prog 6 #[.int .u8 k, v, .bool rd, .int .u16 part, .int .u32 more] w fun e w' => e = .returned (.bool true) ∧ B w w' :=
  ends_law tab_code lv_code vol_code k v n rd part more hk h1 h2 w hv
theorem parts_ok (k : Int) (v : Value) (n : Nat) (rd : Bool) (nn p q : Int) (hk : (Lit.int .u8 k).wf = true) (h1 : (Lit.int .u32 nn).wf = true) (h2 : (Lit.int .u16 p).wf = true) (h3 : (Lit.int .u16 q).wf = true) (w : World) (hv : IsU16 w v n) :
    Calls Try.prog 8 #[.int .u8 k, v, .bool rd, .int .u32 nn, .int .u16 p, .int .u16 q] w fun e w' => e = .returned (.bool true) ∧ B w w' :=
  parts_law tab_code lv_code vol_code k v n rd nn p q hk h1 h2 h3 w hv
theorem lvboxes_ok (a n v part : Int) (ha : (Lit.int .u8 a).wf = true) (hn : (Lit.int .u8 n).wf = true) (hv : (Lit.int .u32 v).wf = true) (hp : (Lit.int .i64 part).wf = true) (w : World) :
    Calls Try.prog 7 #[.int .u8 a, .int .u8 n, .int .u32 v, .int .i64 part] w fun e w' => e = .returned (.bool true) ∧ B w w' :=
  lvboxes_law tab_code lv_code vol_code a n v part ha hn hv hp w
end Go.Proofs.Ytbeeaakkgfccfaa
