/-
  DERIVED. GIVEN WITH THE SEED: THE CARDS: each row of YtjdkhobkdlldnaaDoorRows.lean that lists a variable, with what it lists TIED to the program's text (the seventh form; the later family's looks); each row that meets fmt, with fmt's text TOLD by the authors' own Lean function (tested against real Go, not proved from fmt's source: count such statements apart). THE CARD IS WHAT COUNTS. Prove the row's statement (the work); the ties are given (YtjdkhobkdlldnaaDoorTie.lean); close each card by the builder's one call (the guide's Derived/Test/ToyasCard.lean, 'card_holds'). Laid BY PROGRAM, IN A SANDBOX (cutbox-door.mjs). By AI agents, Wed Nov 11 2026. No macro, syntax, notation, axiom, sorry.
-/
import Derived.Test.YtjdkhobkdlldnaaDoorRows
import GoSem.ClaimSeven
namespace Go.Proofs.YtjdkhobkdlldnaaDoor
namespace Rows

/-- THE TIED CARD OF 'dipperlaw12.ProtoRights'. -/
def protoRightsCard : Claim7 := { stood := { row := protoRightsRow, standIns := [], harness := (true, "87025c4f9e41435caf0b39864c74eedc3229358b7301fc00cd4ed917b1448d36"), looks := false }, kinds := [], alts := [], laidByText := true, laidKinds := [.data, .data, .data], laidTests := true, laidLooks := .later }
def ProtoRightsCardSaid : Prop := Claim7.holds Tryd.pinned (.plain (OpenSpec.ofChange protoRightsSpec)) protoRightsCard

/-- THE TIED CARD OF 'dipperlaw13.ExpandTips'. -/
def expandTipsCard : Claim7 := { stood := { row := expandTipsRow, standIns := [], harness := (true, "87025c4f9e41435caf0b39864c74eedc3229358b7301fc00cd4ed917b1448d36"), looks := false }, kinds := [], alts := [], laidByText := true, laidKinds := [.data, .data, .data], laidTests := true, laidLooks := .later }
def ExpandTipsCardSaid : Prop := Claim7.holds Tryd.pinned (.plain (OpenSpec.ofChange expandTipsSpec)) expandTipsCard

/-- THE TIED CARD OF 'dipperlaw13.ExpandSums'. -/
def expandSumsCard : Claim7 := { stood := { row := expandSumsRow, standIns := [], harness := (true, "87025c4f9e41435caf0b39864c74eedc3229358b7301fc00cd4ed917b1448d36"), looks := false }, kinds := [], alts := [], laidByText := true, laidKinds := [.data, .data, .data], laidTests := true, laidLooks := .later }
def ExpandSumsCardSaid : Prop := Claim7.holds Tryd.pinned (.plain (OpenSpec.ofChange expandSumsSpec)) expandSumsCard

/-- THE TIED CARD OF 'dipperlaw13.ExpandMany'. -/
def expandManyCard : Claim7 := { stood := { row := expandManyRow, standIns := [], harness := (true, "87025c4f9e41435caf0b39864c74eedc3229358b7301fc00cd4ed917b1448d36"), looks := false }, kinds := [], alts := [], laidByText := true, laidKinds := [.data, .data, .data], laidTests := true, laidLooks := .later }
def ExpandManyCardSaid : Prop := Claim7.holds Tryd.pinned (.plain (OpenSpec.ofChange expandManySpec)) expandManyCard

/-- THE SECOND FORM's CARD OF 'dipperlaw12.ProtoRights'. -/
def protoRightsUptoCard : Claim7 := { stood := { row := protoRightsUptoRow, standIns := [], harness := (true, "87025c4f9e41435caf0b39864c74eedc3229358b7301fc00cd4ed917b1448d36"), looks := false }, kinds := [], alts := [], laidByText := true, laidKinds := [.data, .data, .data], laidTests := true, laidLooks := .later }
def ProtoRightsUptoCardSaid : Prop := Claim7.holds Tryd.pinned (.plain (OpenSpec.upto protoRightsSpec)) protoRightsUptoCard

/-- THE SECOND FORM's CARD OF 'dipperlaw13.ExpandTips'. -/
def expandTipsUptoCard : Claim7 := { stood := { row := expandTipsUptoRow, standIns := [], harness := (true, "87025c4f9e41435caf0b39864c74eedc3229358b7301fc00cd4ed917b1448d36"), looks := false }, kinds := [], alts := [], laidByText := true, laidKinds := [.data, .data, .data], laidTests := true, laidLooks := .later }
def ExpandTipsUptoCardSaid : Prop := Claim7.holds Tryd.pinned (.plain (OpenSpec.upto expandTipsSpec)) expandTipsUptoCard

/-- THE SECOND FORM's CARD OF 'dipperlaw13.ExpandSums'. -/
def expandSumsUptoCard : Claim7 := { stood := { row := expandSumsUptoRow, standIns := [], harness := (true, "87025c4f9e41435caf0b39864c74eedc3229358b7301fc00cd4ed917b1448d36"), looks := false }, kinds := [], alts := [], laidByText := true, laidKinds := [.data, .data, .data], laidTests := true, laidLooks := .later }
def ExpandSumsUptoCardSaid : Prop := Claim7.holds Tryd.pinned (.plain (OpenSpec.upto expandSumsSpec)) expandSumsUptoCard

/-- THE SECOND FORM's CARD OF 'dipperlaw13.ExpandMany'. -/
def expandManyUptoCard : Claim7 := { stood := { row := expandManyUptoRow, standIns := [], harness := (true, "87025c4f9e41435caf0b39864c74eedc3229358b7301fc00cd4ed917b1448d36"), looks := false }, kinds := [], alts := [], laidByText := true, laidKinds := [.data, .data, .data], laidTests := true, laidLooks := .later }
def ExpandManyUptoCardSaid : Prop := Claim7.holds Tryd.pinned (.plain (OpenSpec.upto expandManySpec)) expandManyUptoCard
end Rows
end Go.Proofs.YtjdkhobkdlldnaaDoor
