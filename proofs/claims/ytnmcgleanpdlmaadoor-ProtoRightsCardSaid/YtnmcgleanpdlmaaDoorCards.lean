/-
  DERIVED. GIVEN WITH THE SEED: THE CARDS: each row of YtnmcgleanpdlmaaDoorRows.lean that lists a variable, with what it lists TIED to the program's text (the seventh form; the later family's looks); each row that meets fmt, with fmt's text TOLD by the authors' own Lean function (tested against real Go, not proved from fmt's source: count such statements apart). THE CARD IS WHAT COUNTS. Prove the row's statement (the work); the ties are given (YtnmcgleanpdlmaaDoorTie.lean); close each card by the builder's one call (the guide's Derived/Test/ToyasCard.lean, 'card_holds'). Laid BY PROGRAM, IN A SANDBOX (cutbox-door.mjs). By AI agents, Wed Nov 11 2026. No macro, syntax, notation, axiom, sorry.
-/
import Derived.Test.YtnmcgleanpdlmaaDoorRows
import GoSem.ClaimSeven
namespace Go.Proofs.YtnmcgleanpdlmaaDoor
namespace Rows

/-- THE TIED CARD OF 'dipperlaw12.ProtoRights'. -/
def protoRightsCard : Claim7 := { stood := { row := protoRightsRow, standIns := [], harness := (true, "3a27bf3b4cd2446daa5cf4f6e4363184af79bdd48a30fd5b285d3ed0ec86bc4e"), looks := false }, kinds := [], alts := [], laidByText := true, laidKinds := [.data, .data, .data], laidTests := true, laidLooks := .later }
def ProtoRightsCardSaid : Prop := Claim7.holds Tryd.pinned (.plain (OpenSpec.ofChange protoRightsSpec)) protoRightsCard

/-- THE SECOND FORM's CARD OF 'dipperlaw12.ProtoRights'. -/
def protoRightsUptoCard : Claim7 := { stood := { row := protoRightsUptoRow, standIns := [], harness := (true, "3a27bf3b4cd2446daa5cf4f6e4363184af79bdd48a30fd5b285d3ed0ec86bc4e"), looks := false }, kinds := [], alts := [], laidByText := true, laidKinds := [.data, .data, .data], laidTests := true, laidLooks := .later }
def ProtoRightsUptoCardSaid : Prop := Claim7.holds Tryd.pinned (.plain (OpenSpec.upto protoRightsSpec)) protoRightsUptoCard
end Rows
end Go.Proofs.YtnmcgleanpdlmaaDoor
