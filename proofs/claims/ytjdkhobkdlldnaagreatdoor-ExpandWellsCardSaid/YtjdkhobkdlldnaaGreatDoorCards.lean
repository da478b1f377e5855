/-
  DERIVED. GIVEN WITH THE SEED: THE CARDS: each row of YtjdkhobkdlldnaaGreatDoorRows.lean that lists a variable, with what it lists TIED to the program's text (the seventh form; the later family's looks); each row that meets fmt, with fmt's text TOLD by the authors' own Lean function (tested against real Go, not proved from fmt's source: count such statements apart). THE CARD IS WHAT COUNTS. Prove the row's statement (the work); the ties are given (YtjdkhobkdlldnaaGreatDoorTie.lean); close each card by the builder's one call (the guide's Derived/Test/ToyasCard.lean, 'card_holds'). Laid BY PROGRAM, IN A SANDBOX (cutbox-door.mjs). By AI agents, Wed Nov 11 2026. No macro, syntax, notation, axiom, sorry.
-/
import Derived.Test.YtjdkhobkdlldnaaGreatDoorRows
import GoSem.ClaimSeven
namespace Go.Proofs.YtjdkhobkdlldnaaGreatDoor
namespace Rows

/-- THE TIED CARD OF 'dipperlaw9.WareRights'. -/
def wareRightsCard : Claim7 := { stood := { row := wareRightsRow, standIns := [], harness := (true, "2da2fdf542cd8044986cbdc72d50f9e1e5ef3d2d9a5a4f723851c632acb35738"), looks := false }, kinds := [], alts := [], laidByText := true, laidKinds := [.data, .data, .data], laidTests := true, laidLooks := .later }
def WareRightsCardSaid : Prop := Claim7.holds Tryz.pinned (.plain (OpenSpec.ofChange wareRightsSpec)) wareRightsCard

/-- THE TIED CARD OF 'dipperlaw13.ExpandWells'. -/
def expandWellsCard : Claim7 := { stood := { row := expandWellsRow, standIns := [], harness := (true, "2da2fdf542cd8044986cbdc72d50f9e1e5ef3d2d9a5a4f723851c632acb35738"), looks := false }, kinds := [], alts := [], laidByText := true, laidKinds := [.data, .data, .data], laidTests := true, laidLooks := .later }
def ExpandWellsCardSaid : Prop := Claim7.holds Tryz.pinned (.plain (OpenSpec.ofChange expandWellsSpec)) expandWellsCard

/-- THE SECOND FORM's CARD OF 'dipperlaw9.WareRights'. -/
def wareRightsUptoCard : Claim7 := { stood := { row := wareRightsUptoRow, standIns := [], harness := (true, "2da2fdf542cd8044986cbdc72d50f9e1e5ef3d2d9a5a4f723851c632acb35738"), looks := false }, kinds := [], alts := [], laidByText := true, laidKinds := [.data, .data, .data], laidTests := true, laidLooks := .later }
def WareRightsUptoCardSaid : Prop := Claim7.holds Tryz.pinned (.plain (OpenSpec.upto wareRightsSpec)) wareRightsUptoCard

/-- THE SECOND FORM's CARD OF 'dipperlaw13.ExpandWells'. -/
def expandWellsUptoCard : Claim7 := { stood := { row := expandWellsUptoRow, standIns := [], harness := (true, "2da2fdf542cd8044986cbdc72d50f9e1e5ef3d2d9a5a4f723851c632acb35738"), looks := false }, kinds := [], alts := [], laidByText := true, laidKinds := [.data, .data, .data], laidTests := true, laidLooks := .later }
def ExpandWellsUptoCardSaid : Prop := Claim7.holds Tryz.pinned (.plain (OpenSpec.upto expandWellsSpec)) expandWellsUptoCard
end Rows
end Go.Proofs.YtjdkhobkdlldnaaGreatDoor
