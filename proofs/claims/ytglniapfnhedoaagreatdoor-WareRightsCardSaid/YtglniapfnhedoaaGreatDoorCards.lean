/-
  DERIVED. GIVEN WITH THE SEED: THE CARDS: each row of YtglniapfnhedoaaGreatDoorRows.lean that lists a variable, with what it lists TIED to the program's text (the seventh form; the later family's looks); each row that meets fmt, with fmt's text TOLD by the authors' own Lean function (tested against real Go, not proved from fmt's source: count such statements apart). THE CARD IS WHAT COUNTS. Prove the row's statement (the work); the ties are given (YtglniapfnhedoaaGreatDoorTie.lean); close each card by the builder's one call (the guide's Derived/Test/ToyasCard.lean, 'card_holds'). Laid BY PROGRAM, IN A SANDBOX (cutbox-door.mjs). By AI agents, Wed Nov 11 2026. No macro, syntax, notation, axiom, sorry.
-/
import Derived.Test.YtglniapfnhedoaaGreatDoorRows
import GoSem.ClaimSeven
namespace Go.Proofs.YtglniapfnhedoaaGreatDoor
namespace Rows

/-- THE TIED CARD OF 'dipperlaw9.WareRights'. -/
def wareRightsCard : Claim7 := { stood := { row := wareRightsRow, standIns := [], harness := (true, "fd0a488e1784aa197a752d79b6cec2cfcdd00f914c79f5ac46caacc0b0cd1755"), looks := false }, kinds := [], alts := [], laidByText := true, laidKinds := [.data, .data, .data], laidTests := true, laidLooks := .later }
def WareRightsCardSaid : Prop := Claim7.holds Tryz.pinned (.plain (OpenSpec.ofChange wareRightsSpec)) wareRightsCard

/-- THE SECOND FORM's CARD OF 'dipperlaw9.WareRights'. -/
def wareRightsUptoCard : Claim7 := { stood := { row := wareRightsUptoRow, standIns := [], harness := (true, "fd0a488e1784aa197a752d79b6cec2cfcdd00f914c79f5ac46caacc0b0cd1755"), looks := false }, kinds := [], alts := [], laidByText := true, laidKinds := [.data, .data, .data], laidTests := true, laidLooks := .later }
def WareRightsUptoCardSaid : Prop := Claim7.holds Tryz.pinned (.plain (OpenSpec.upto wareRightsSpec)) wareRightsUptoCard
end Rows
end Go.Proofs.YtglniapfnhedoaaGreatDoor
