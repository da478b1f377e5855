/-
  DERIVED. GIVEN WITH THE SEED: THE CARDS: each row of YtflklpflpjdbmaaGreatDoorRows.lean that lists a variable, with what it lists TIED to the program's text (the seventh form; the later family's looks); each row that meets fmt, with fmt's text TOLD by the authors' own Lean function (tested against real Go, not proved from fmt's source: count such statements apart). THE CARD IS WHAT COUNTS. Prove the row's statement (the work); the ties are given (YtflklpflpjdbmaaGreatDoorTie.lean); close each card by the builder's one call (the guide's Derived/Test/ToyasCard.lean, 'card_holds'). Laid BY PROGRAM, IN A SANDBOX (cutbox-door.mjs). By AI agents, Wed Nov 11 2026. No macro, syntax, notation, axiom, sorry.
-/
import Derived.Test.YtflklpflpjdbmaaGreatDoorRows
import GoSem.ClaimSeven
namespace Go.Proofs.YtflklpflpjdbmaaGreatDoor
namespace Rows

/-- THE TIED CARD OF 'dipperlaw9.WareRights'. -/
def wareRightsCard : Claim7 := { stood := { row := wareRightsRow, standIns := [], harness := (true, "74b4ce7a29c9268d60c68450c75446a6c2adeb5654cc3ed820b6457a9ef7a858"), looks := false }, kinds := [], alts := [], laidByText := true, laidKinds := [.data, .data, .data], laidTests := true, laidLooks := .later }
def WareRightsCardSaid : Prop := Claim7.holds Tryz.pinned (.plain (OpenSpec.ofChange wareRightsSpec)) wareRightsCard

/-- THE TIED CARD OF 'dipperlaw9.WareErrors'. -/
def wareErrorsCard : Claim7 := { stood := { row := wareErrorsRow, standIns := [], harness := (true, "74b4ce7a29c9268d60c68450c75446a6c2adeb5654cc3ed820b6457a9ef7a858"), looks := false }, kinds := [], alts := [], laidByText := true, laidKinds := [.data, .data, .data], laidTests := true, laidLooks := .later }
def WareErrorsCardSaid : Prop := Claim7.holds Tryz.pinned (.plain (OpenSpec.ofChange wareErrorsSpec)) wareErrorsCard

/-- THE TIED CARD OF 'dipperlaw9.WareMany'. -/
def wareManyCard : Claim7 := { stood := { row := wareManyRow, standIns := [], harness := (true, "74b4ce7a29c9268d60c68450c75446a6c2adeb5654cc3ed820b6457a9ef7a858"), looks := false }, kinds := [], alts := [], laidByText := true, laidKinds := [.data, .data, .data], laidTests := true, laidLooks := .later }
def WareManyCardSaid : Prop := Claim7.holds Tryz.pinned (.plain (OpenSpec.ofChange wareManySpec)) wareManyCard

/-- THE TIED CARD OF 'dipperlaw9.WareRest'. -/
def wareRestCard : Claim7 := { stood := { row := wareRestRow, standIns := [], harness := (true, "74b4ce7a29c9268d60c68450c75446a6c2adeb5654cc3ed820b6457a9ef7a858"), looks := false }, kinds := [], alts := [], laidByText := true, laidKinds := [.data, .data, .data], laidTests := true, laidLooks := .later }
def WareRestCardSaid : Prop := Claim7.holds Tryz.pinned (.plain (OpenSpec.ofChange wareRestSpec)) wareRestCard

/-- THE SECOND FORM's CARD OF 'dipperlaw9.WareRights'. -/
def wareRightsUptoCard : Claim7 := { stood := { row := wareRightsUptoRow, standIns := [], harness := (true, "74b4ce7a29c9268d60c68450c75446a6c2adeb5654cc3ed820b6457a9ef7a858"), looks := false }, kinds := [], alts := [], laidByText := true, laidKinds := [.data, .data, .data], laidTests := true, laidLooks := .later }
def WareRightsUptoCardSaid : Prop := Claim7.holds Tryz.pinned (.plain (OpenSpec.upto wareRightsSpec)) wareRightsUptoCard

/-- THE SECOND FORM's CARD OF 'dipperlaw9.WareErrors'. -/
def wareErrorsUptoCard : Claim7 := { stood := { row := wareErrorsUptoRow, standIns := [], harness := (true, "74b4ce7a29c9268d60c68450c75446a6c2adeb5654cc3ed820b6457a9ef7a858"), looks := false }, kinds := [], alts := [], laidByText := true, laidKinds := [.data, .data, .data], laidTests := true, laidLooks := .later }
def WareErrorsUptoCardSaid : Prop := Claim7.holds Tryz.pinned (.plain (OpenSpec.upto wareErrorsSpec)) wareErrorsUptoCard

/-- THE SECOND FORM's CARD OF 'dipperlaw9.WareMany'. -/
def wareManyUptoCard : Claim7 := { stood := { row := wareManyUptoRow, standIns := [], harness := (true, "74b4ce7a29c9268d60c68450c75446a6c2adeb5654cc3ed820b6457a9ef7a858"), looks := false }, kinds := [], alts := [], laidByText := true, laidKinds := [.data, .data, .data], laidTests := true, laidLooks := .later }
def WareManyUptoCardSaid : Prop := Claim7.holds Tryz.pinned (.plain (OpenSpec.upto wareManySpec)) wareManyUptoCard

/-- THE SECOND FORM's CARD OF 'dipperlaw9.WareRest'. -/
def wareRestUptoCard : Claim7 := { stood := { row := wareRestUptoRow, standIns := [], harness := (true, "74b4ce7a29c9268d60c68450c75446a6c2adeb5654cc3ed820b6457a9ef7a858"), looks := false }, kinds := [], alts := [], laidByText := true, laidKinds := [.data, .data, .data], laidTests := true, laidLooks := .later }
def WareRestUptoCardSaid : Prop := Claim7.holds Tryz.pinned (.plain (OpenSpec.upto wareRestSpec)) wareRestUptoCard
end Rows
end Go.Proofs.YtflklpflpjdbmaaGreatDoor
