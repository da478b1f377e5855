/-
  DERIVED. GIVEN WITH THE SEED: THE CARDS: each row of YtalnfojaccfcjaaGreatDoorRows.lean that lists a variable, with what it lists TIED to the program's text (the seventh form; the later family's looks); each row that meets fmt, with fmt's text TOLD by the authors' own Lean function (tested against real Go, not proved from fmt's source: count such statements apart). THE CARD IS WHAT COUNTS. Prove the row's statement (the work); the ties are given (YtalnfojaccfcjaaGreatDoorTie.lean); close each card by the builder's one call (the guide's Derived/Test/ToyasCard.lean, 'card_holds'). Laid BY PROGRAM, IN A SANDBOX (cutbox-door.mjs). By AI agents, Wed Nov 11 2026. No macro, syntax, notation, axiom, sorry.
-/
import Derived.Test.YtalnfojaccfcjaaGreatDoorRows
import GoSem.ClaimSeven
namespace Go.Proofs.YtalnfojaccfcjaaGreatDoor
namespace Rows

/-- THE TIED CARD OF 'dipperlaw9.WareRights'. -/
def wareRightsCard : Claim7 := { stood := { row := wareRightsRow, standIns := [], harness := (true, "8dd0da0ef71d33630b9d9000df1bd9a315800b7e9446aeef51e1ed4f05ec1f42"), looks := false }, kinds := [], alts := [], laidByText := true, laidKinds := [.data, .data, .data], laidTests := true, laidLooks := .later }
def WareRightsCardSaid : Prop := Claim7.holds Tryz.pinned (.plain (OpenSpec.ofChange wareRightsSpec)) wareRightsCard

/-- THE TIED CARD OF 'dipperlaw9.WareRest'. -/
def wareRestCard : Claim7 := { stood := { row := wareRestRow, standIns := [], harness := (true, "8dd0da0ef71d33630b9d9000df1bd9a315800b7e9446aeef51e1ed4f05ec1f42"), looks := false }, kinds := [], alts := [], laidByText := true, laidKinds := [.data, .data, .data], laidTests := true, laidLooks := .later }
def WareRestCardSaid : Prop := Claim7.holds Tryz.pinned (.plain (OpenSpec.ofChange wareRestSpec)) wareRestCard

/-- THE TIED CARD OF 'dipperlaw11.DeckTells'. -/
def deckTellsCard : Claim7 := { stood := { row := deckTellsRow, standIns := [], harness := (true, "8dd0da0ef71d33630b9d9000df1bd9a315800b7e9446aeef51e1ed4f05ec1f42"), looks := false }, kinds := [], alts := [], laidByText := true, laidKinds := [.data, .data, .data], laidTests := true, laidLooks := .later }
def DeckTellsCardSaid : Prop := Claim7.holds Tryz.pinned (.plain (OpenSpec.ofChange deckTellsSpec)) deckTellsCard

/-- THE TIED CARD OF 'dipperlaw11.DeckOnce'. -/
def deckOnceCard : Claim7 := { stood := { row := deckOnceRow, standIns := [], harness := (true, "8dd0da0ef71d33630b9d9000df1bd9a315800b7e9446aeef51e1ed4f05ec1f42"), looks := false }, kinds := [], alts := [], laidByText := true, laidKinds := [.data, .data, .data], laidTests := true, laidLooks := .later }
def DeckOnceCardSaid : Prop := Claim7.holds Tryz.pinned (.plain (OpenSpec.ofChange deckOnceSpec)) deckOnceCard

/-- THE TIED CARD OF 'dipperlaw11.DeckStarts'. -/
def deckStartsCard : Claim7 := { stood := { row := deckStartsRow, standIns := [], harness := (true, "8dd0da0ef71d33630b9d9000df1bd9a315800b7e9446aeef51e1ed4f05ec1f42"), looks := false }, kinds := [], alts := [], laidByText := true, laidKinds := [.data, .data, .data], laidTests := true, laidLooks := .later }
def DeckStartsCardSaid : Prop := Claim7.holds Tryz.pinned (.plain (OpenSpec.ofChange deckStartsSpec)) deckStartsCard

/-- THE TIED CARD OF 'dipperlaw11.DeckOwn'. -/
def deckOwnCard : Claim7 := { stood := { row := deckOwnRow, standIns := [], harness := (true, "8dd0da0ef71d33630b9d9000df1bd9a315800b7e9446aeef51e1ed4f05ec1f42"), looks := false }, kinds := [], alts := [], laidByText := true, laidKinds := [.data, .data, .data], laidTests := true, laidLooks := .later }
def DeckOwnCardSaid : Prop := Claim7.holds Tryz.pinned (.plain (OpenSpec.ofChange deckOwnSpec)) deckOwnCard

/-- THE SECOND FORM's CARD OF 'dipperlaw9.WareRights'. -/
def wareRightsUptoCard : Claim7 := { stood := { row := wareRightsUptoRow, standIns := [], harness := (true, "8dd0da0ef71d33630b9d9000df1bd9a315800b7e9446aeef51e1ed4f05ec1f42"), looks := false }, kinds := [], alts := [], laidByText := true, laidKinds := [.data, .data, .data], laidTests := true, laidLooks := .later }
def WareRightsUptoCardSaid : Prop := Claim7.holds Tryz.pinned (.plain (OpenSpec.upto wareRightsSpec)) wareRightsUptoCard

/-- THE SECOND FORM's CARD OF 'dipperlaw9.WareRest'. -/
def wareRestUptoCard : Claim7 := { stood := { row := wareRestUptoRow, standIns := [], harness := (true, "8dd0da0ef71d33630b9d9000df1bd9a315800b7e9446aeef51e1ed4f05ec1f42"), looks := false }, kinds := [], alts := [], laidByText := true, laidKinds := [.data, .data, .data], laidTests := true, laidLooks := .later }
def WareRestUptoCardSaid : Prop := Claim7.holds Tryz.pinned (.plain (OpenSpec.upto wareRestSpec)) wareRestUptoCard

/-- THE SECOND FORM's CARD OF 'dipperlaw11.DeckTells'. -/
def deckTellsUptoCard : Claim7 := { stood := { row := deckTellsUptoRow, standIns := [], harness := (true, "8dd0da0ef71d33630b9d9000df1bd9a315800b7e9446aeef51e1ed4f05ec1f42"), looks := false }, kinds := [], alts := [], laidByText := true, laidKinds := [.data, .data, .data], laidTests := true, laidLooks := .later }
def DeckTellsUptoCardSaid : Prop := Claim7.holds Tryz.pinned (.plain (OpenSpec.upto deckTellsSpec)) deckTellsUptoCard

/-- THE SECOND FORM's CARD OF 'dipperlaw11.DeckOnce'. -/
def deckOnceUptoCard : Claim7 := { stood := { row := deckOnceUptoRow, standIns := [], harness := (true, "8dd0da0ef71d33630b9d9000df1bd9a315800b7e9446aeef51e1ed4f05ec1f42"), looks := false }, kinds := [], alts := [], laidByText := true, laidKinds := [.data, .data, .data], laidTests := true, laidLooks := .later }
def DeckOnceUptoCardSaid : Prop := Claim7.holds Tryz.pinned (.plain (OpenSpec.upto deckOnceSpec)) deckOnceUptoCard

/-- THE SECOND FORM's CARD OF 'dipperlaw11.DeckStarts'. -/
def deckStartsUptoCard : Claim7 := { stood := { row := deckStartsUptoRow, standIns := [], harness := (true, "8dd0da0ef71d33630b9d9000df1bd9a315800b7e9446aeef51e1ed4f05ec1f42"), looks := false }, kinds := [], alts := [], laidByText := true, laidKinds := [.data, .data, .data], laidTests := true, laidLooks := .later }
def DeckStartsUptoCardSaid : Prop := Claim7.holds Tryz.pinned (.plain (OpenSpec.upto deckStartsSpec)) deckStartsUptoCard

/-- THE SECOND FORM's CARD OF 'dipperlaw11.DeckOwn'. -/
def deckOwnUptoCard : Claim7 := { stood := { row := deckOwnUptoRow, standIns := [], harness := (true, "8dd0da0ef71d33630b9d9000df1bd9a315800b7e9446aeef51e1ed4f05ec1f42"), looks := false }, kinds := [], alts := [], laidByText := true, laidKinds := [.data, .data, .data], laidTests := true, laidLooks := .later }
def DeckOwnUptoCardSaid : Prop := Claim7.holds Tryz.pinned (.plain (OpenSpec.upto deckOwnSpec)) deckOwnUptoCard
end Rows
end Go.Proofs.YtalnfojaccfcjaaGreatDoor
