/-
  DERIVED. GIVEN WITH THE SEED: THE CARDS: each row of YthlileddhgglnaaGreatDoorRows.lean that lists a variable, with what it lists TIED to the program's text (the seventh form; the later family's looks); each row that meets fmt, with fmt's text TOLD by the authors' own Lean function (tested against real Go, not proved from fmt's source: count such statements apart). THE CARD IS WHAT COUNTS. Prove the row's statement (the work); the ties are given (YthlileddhgglnaaGreatDoorTie.lean); close each card by the builder's one call (the guide's Derived/Test/ToyasCard.lean, 'card_holds'). Laid BY PROGRAM, IN A SANDBOX (cutbox-door.mjs). By AI agents, Wed Nov 11 2026. No macro, syntax, notation, axiom, sorry.
-/
import Derived.Test.YthlileddhgglnaaGreatDoorRows
import GoSem.ClaimSeven
namespace Go.Proofs.YthlileddhgglnaaGreatDoor
namespace Rows

/-- THE TIED CARD OF 'dipperlaw9.WareRights'. -/
def wareRightsCard : Claim7 := { stood := { row := wareRightsRow, standIns := [], harness := (true, "434ea77878b67619f6574a4b2faf4d4735f1127b88c4c7376fa3627dbc167476"), looks := false }, kinds := [], alts := [], laidByText := true, laidKinds := [.data, .data, .data], laidTests := true, laidLooks := .later }
def WareRightsCardSaid : Prop := Claim7.holds Tryz.pinned (.plain (OpenSpec.ofChange wareRightsSpec)) wareRightsCard

/-- THE TIED CARD OF 'dipperlaw11.DeckTells'. -/
def deckTellsCard : Claim7 := { stood := { row := deckTellsRow, standIns := [], harness := (true, "434ea77878b67619f6574a4b2faf4d4735f1127b88c4c7376fa3627dbc167476"), looks := false }, kinds := [], alts := [], laidByText := true, laidKinds := [.data, .data, .data], laidTests := true, laidLooks := .later }
def DeckTellsCardSaid : Prop := Claim7.holds Tryz.pinned (.plain (OpenSpec.ofChange deckTellsSpec)) deckTellsCard

/-- THE SECOND FORM's CARD OF 'dipperlaw9.WareRights'. -/
def wareRightsUptoCard : Claim7 := { stood := { row := wareRightsUptoRow, standIns := [], harness := (true, "434ea77878b67619f6574a4b2faf4d4735f1127b88c4c7376fa3627dbc167476"), looks := false }, kinds := [], alts := [], laidByText := true, laidKinds := [.data, .data, .data], laidTests := true, laidLooks := .later }
def WareRightsUptoCardSaid : Prop := Claim7.holds Tryz.pinned (.plain (OpenSpec.upto wareRightsSpec)) wareRightsUptoCard

/-- THE SECOND FORM's CARD OF 'dipperlaw11.DeckTells'. -/
def deckTellsUptoCard : Claim7 := { stood := { row := deckTellsUptoRow, standIns := [], harness := (true, "434ea77878b67619f6574a4b2faf4d4735f1127b88c4c7376fa3627dbc167476"), looks := false }, kinds := [], alts := [], laidByText := true, laidKinds := [.data, .data, .data], laidTests := true, laidLooks := .later }
def DeckTellsUptoCardSaid : Prop := Claim7.holds Tryz.pinned (.plain (OpenSpec.upto deckTellsSpec)) deckTellsUptoCard
end Rows
end Go.Proofs.YthlileddhgglnaaGreatDoor
