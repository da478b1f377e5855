/-
  DERIVED. GIVEN WITH THE SEED: THE CARDS: each row of YtjcpabppklkjpaaDoorRows.lean that lists a variable, with what it lists TIED to the program's text (the seventh form; the later family's looks); each row that meets fmt, with fmt's text TOLD by the authors' own Lean function (tested against real Go, not proved from fmt's source: count such statements apart). THE CARD IS WHAT COUNTS. Prove the row's statement (the work); the ties are given (YtjcpabppklkjpaaDoorTie.lean); close each card by the builder's one call (the guide's Derived/Test/ToyasCard.lean, 'card_holds'). Laid BY PROGRAM, IN A SANDBOX (cutbox-door.mjs). By AI agents, Wed Nov 11 2026. No macro, syntax, notation, axiom, sorry.
-/
import Derived.Test.YtjcpabppklkjpaaDoorRows
import GoSem.ClaimSeven
namespace Go.Proofs.YtjcpabppklkjpaaDoor
namespace Rows

/-- THE TIED CARD OF 'dipperlaw10.WellTells'. -/
def wellTellsCard : Claim7 := { stood := { row := wellTellsRow, standIns := [], harness := (true, "6984ce8b5138875bf711f5d526f3f1a5559a2e0444792a6173dfe2538791bad8"), looks := false }, kinds := [], alts := [], laidByText := true, laidKinds := [.data, .data, .data], laidTests := true, laidLooks := .later }
def WellTellsCardSaid : Prop := Claim7.holds Tryd.pinned (.plain (OpenSpec.ofChange wellTellsSpec)) wellTellsCard

/-- THE TIED CARD OF 'dipperlaw10.WellNumbers'. -/
def wellNumbersCard : Claim7 := { stood := { row := wellNumbersRow, standIns := [], harness := (true, "6984ce8b5138875bf711f5d526f3f1a5559a2e0444792a6173dfe2538791bad8"), looks := false }, kinds := [], alts := [], laidByText := true, laidKinds := [.data, .data, .data], laidTests := true, laidLooks := .later }
def WellNumbersCardSaid : Prop := Claim7.holds Tryd.pinned (.plain (OpenSpec.ofChange wellNumbersSpec)) wellNumbersCard

/-- THE TIED CARD OF 'dipperlaw10.WellEach'. -/
def wellEachCard : Claim7 := { stood := { row := wellEachRow, standIns := [], harness := (true, "6984ce8b5138875bf711f5d526f3f1a5559a2e0444792a6173dfe2538791bad8"), looks := false }, kinds := [], alts := [], laidByText := true, laidKinds := [.data, .data, .data], laidTests := true, laidLooks := .later }
def WellEachCardSaid : Prop := Claim7.holds Tryd.pinned (.plain (OpenSpec.ofChange wellEachSpec)) wellEachCard

/-- THE TIED CARD OF 'dipperlaw10.WellRefuses'. -/
def wellRefusesCard : Claim7 := { stood := { row := wellRefusesRow, standIns := [], harness := (true, "6984ce8b5138875bf711f5d526f3f1a5559a2e0444792a6173dfe2538791bad8"), looks := false }, kinds := [], alts := [], laidByText := true, laidKinds := [.data, .data, .data], laidTests := true, laidLooks := .later }
def WellRefusesCardSaid : Prop := Claim7.holds Tryd.pinned (.plain (OpenSpec.ofChange wellRefusesSpec)) wellRefusesCard

/-- THE SECOND FORM's CARD OF 'dipperlaw10.WellTells'. -/
def wellTellsUptoCard : Claim7 := { stood := { row := wellTellsUptoRow, standIns := [], harness := (true, "6984ce8b5138875bf711f5d526f3f1a5559a2e0444792a6173dfe2538791bad8"), looks := false }, kinds := [], alts := [], laidByText := true, laidKinds := [.data, .data, .data], laidTests := true, laidLooks := .later }
def WellTellsUptoCardSaid : Prop := Claim7.holds Tryd.pinned (.plain (OpenSpec.upto wellTellsSpec)) wellTellsUptoCard

/-- THE SECOND FORM's CARD OF 'dipperlaw10.WellNumbers'. -/
def wellNumbersUptoCard : Claim7 := { stood := { row := wellNumbersUptoRow, standIns := [], harness := (true, "6984ce8b5138875bf711f5d526f3f1a5559a2e0444792a6173dfe2538791bad8"), looks := false }, kinds := [], alts := [], laidByText := true, laidKinds := [.data, .data, .data], laidTests := true, laidLooks := .later }
def WellNumbersUptoCardSaid : Prop := Claim7.holds Tryd.pinned (.plain (OpenSpec.upto wellNumbersSpec)) wellNumbersUptoCard

/-- THE SECOND FORM's CARD OF 'dipperlaw10.WellEach'. -/
def wellEachUptoCard : Claim7 := { stood := { row := wellEachUptoRow, standIns := [], harness := (true, "6984ce8b5138875bf711f5d526f3f1a5559a2e0444792a6173dfe2538791bad8"), looks := false }, kinds := [], alts := [], laidByText := true, laidKinds := [.data, .data, .data], laidTests := true, laidLooks := .later }
def WellEachUptoCardSaid : Prop := Claim7.holds Tryd.pinned (.plain (OpenSpec.upto wellEachSpec)) wellEachUptoCard

/-- THE SECOND FORM's CARD OF 'dipperlaw10.WellRefuses'. -/
def wellRefusesUptoCard : Claim7 := { stood := { row := wellRefusesUptoRow, standIns := [], harness := (true, "6984ce8b5138875bf711f5d526f3f1a5559a2e0444792a6173dfe2538791bad8"), looks := false }, kinds := [], alts := [], laidByText := true, laidKinds := [.data, .data, .data], laidTests := true, laidLooks := .later }
def WellRefusesUptoCardSaid : Prop := Claim7.holds Tryd.pinned (.plain (OpenSpec.upto wellRefusesSpec)) wellRefusesUptoCard
end Rows
end Go.Proofs.YtjcpabppklkjpaaDoor
