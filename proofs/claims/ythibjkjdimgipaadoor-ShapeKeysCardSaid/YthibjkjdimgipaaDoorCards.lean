/-
  DERIVED. GIVEN WITH THE SEED: THE CARDS: each row of YthibjkjdimgipaaDoorRows.lean that lists a variable, with what it lists TIED to the program's text (the seventh form; the later family's looks); each row that meets fmt, with fmt's text TOLD by the authors' own Lean function (tested against real Go, not proved from fmt's source: count such statements apart). THE CARD IS WHAT COUNTS. Prove the row's statement (the work); the ties are given (YthibjkjdimgipaaDoorTie.lean); close each card by the builder's one call (the guide's Derived/Test/ToyasCard.lean, 'card_holds'). Laid BY PROGRAM, IN A SANDBOX (cutbox-door.mjs). By AI agents, Wed Nov 11 2026. No macro, syntax, notation, axiom, sorry.
-/
import Derived.Test.YthibjkjdimgipaaDoorRows
import GoSem.ClaimSeven
namespace Go.Proofs.YthibjkjdimgipaaDoor
namespace Rows

/-- THE TIED CARD OF 'dipperlaw3.ShapeKeys'. -/
def shapeKeysCard : Claim7 := { stood := { row := shapeKeysRow, standIns := [], harness := (true, "4703d00ae256dce0e4a531e0f701becd45bf1240e00d1ae8fc844f559aacdbdc"), looks := false }, kinds := [], alts := [], laidByText := true, laidKinds := [.data, .data, .data], laidTests := true, laidLooks := .later }
def ShapeKeysCardSaid : Prop := Claim7.holds Tryd.pinned (.plain (OpenSpec.ofChange shapeKeysSpec)) shapeKeysCard

/-- THE SECOND FORM's CARD OF 'dipperlaw3.ShapeKeys'. -/
def shapeKeysUptoCard : Claim7 := { stood := { row := shapeKeysUptoRow, standIns := [], harness := (true, "4703d00ae256dce0e4a531e0f701becd45bf1240e00d1ae8fc844f559aacdbdc"), looks := false }, kinds := [], alts := [], laidByText := true, laidKinds := [.data, .data, .data], laidTests := true, laidLooks := .later }
def ShapeKeysUptoCardSaid : Prop := Claim7.holds Tryd.pinned (.plain (OpenSpec.upto shapeKeysSpec)) shapeKeysUptoCard
end Rows
end Go.Proofs.YthibjkjdimgipaaDoor
