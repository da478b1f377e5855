/-
  DERIVED. GIVEN WITH THE SEED: THE CARDS: each row of YthlileddhgglnaaDoorRows.lean that lists a variable, with what it lists TIED to the program's text (the seventh form; the later family's looks); each row that meets fmt, with fmt's text TOLD by the authors' own Lean function (tested against real Go, not proved from fmt's source: count such statements apart). THE CARD IS WHAT COUNTS. Prove the row's statement (the work); the ties are given (YthlileddhgglnaaDoorTie.lean); close each card by the builder's one call (the guide's Derived/Test/ToyasCard.lean, 'card_holds'). Laid BY PROGRAM, IN A SANDBOX (cutbox-door.mjs). By AI agents, Wed Nov 11 2026. No macro, syntax, notation, axiom, sorry.
-/
import Derived.Test.YthlileddhgglnaaDoorRows
import GoSem.ClaimSeven
namespace Go.Proofs.YthlileddhgglnaaDoor
namespace Rows

/-- THE TIED CARD OF 'dipperlaw12.ProtoReads'. -/
def protoReadsCard : Claim7 := { stood := { row := protoReadsRow, standIns := [], harness := (true, "f29e4367e44f41eca3341c73b762d7d015c03544d4d0f78a64b37667f44f967e"), looks := false }, kinds := [], alts := [], laidByText := true, laidKinds := [.data, .data, .data], laidTests := true, laidLooks := .later }
def ProtoReadsCardSaid : Prop := Claim7.holds Tryd.pinned (.plain (OpenSpec.ofChange protoReadsSpec)) protoReadsCard

/-- THE TIED CARD OF 'dipperlaw12.ProtoRights'. -/
def protoRightsCard : Claim7 := { stood := { row := protoRightsRow, standIns := [], harness := (true, "f29e4367e44f41eca3341c73b762d7d015c03544d4d0f78a64b37667f44f967e"), looks := false }, kinds := [], alts := [], laidByText := true, laidKinds := [.data, .data, .data], laidTests := true, laidLooks := .later }
def ProtoRightsCardSaid : Prop := Claim7.holds Tryd.pinned (.plain (OpenSpec.ofChange protoRightsSpec)) protoRightsCard

/-- THE TIED CARD OF 'dipperlaw12.ProtoErrors'. -/
def protoErrorsCard : Claim7 := { stood := { row := protoErrorsRow, standIns := [], harness := (true, "f29e4367e44f41eca3341c73b762d7d015c03544d4d0f78a64b37667f44f967e"), looks := false }, kinds := [], alts := [], laidByText := true, laidKinds := [.data, .data, .data], laidTests := true, laidLooks := .later }
def ProtoErrorsCardSaid : Prop := Claim7.holds Tryd.pinned (.plain (OpenSpec.ofChange protoErrorsSpec)) protoErrorsCard

/-- THE TIED CARD OF 'dipperlaw12.ProtoMany'. -/
def protoManyCard : Claim7 := { stood := { row := protoManyRow, standIns := [], harness := (true, "f29e4367e44f41eca3341c73b762d7d015c03544d4d0f78a64b37667f44f967e"), looks := false }, kinds := [], alts := [], laidByText := true, laidKinds := [.data, .data, .data], laidTests := true, laidLooks := .later }
def ProtoManyCardSaid : Prop := Claim7.holds Tryd.pinned (.plain (OpenSpec.ofChange protoManySpec)) protoManyCard

/-- THE SECOND FORM's CARD OF 'dipperlaw12.ProtoReads'. -/
def protoReadsUptoCard : Claim7 := { stood := { row := protoReadsUptoRow, standIns := [], harness := (true, "f29e4367e44f41eca3341c73b762d7d015c03544d4d0f78a64b37667f44f967e"), looks := false }, kinds := [], alts := [], laidByText := true, laidKinds := [.data, .data, .data], laidTests := true, laidLooks := .later }
def ProtoReadsUptoCardSaid : Prop := Claim7.holds Tryd.pinned (.plain (OpenSpec.upto protoReadsSpec)) protoReadsUptoCard

/-- THE SECOND FORM's CARD OF 'dipperlaw12.ProtoRights'. -/
def protoRightsUptoCard : Claim7 := { stood := { row := protoRightsUptoRow, standIns := [], harness := (true, "f29e4367e44f41eca3341c73b762d7d015c03544d4d0f78a64b37667f44f967e"), looks := false }, kinds := [], alts := [], laidByText := true, laidKinds := [.data, .data, .data], laidTests := true, laidLooks := .later }
def ProtoRightsUptoCardSaid : Prop := Claim7.holds Tryd.pinned (.plain (OpenSpec.upto protoRightsSpec)) protoRightsUptoCard

/-- THE SECOND FORM's CARD OF 'dipperlaw12.ProtoErrors'. -/
def protoErrorsUptoCard : Claim7 := { stood := { row := protoErrorsUptoRow, standIns := [], harness := (true, "f29e4367e44f41eca3341c73b762d7d015c03544d4d0f78a64b37667f44f967e"), looks := false }, kinds := [], alts := [], laidByText := true, laidKinds := [.data, .data, .data], laidTests := true, laidLooks := .later }
def ProtoErrorsUptoCardSaid : Prop := Claim7.holds Tryd.pinned (.plain (OpenSpec.upto protoErrorsSpec)) protoErrorsUptoCard

/-- THE SECOND FORM's CARD OF 'dipperlaw12.ProtoMany'. -/
def protoManyUptoCard : Claim7 := { stood := { row := protoManyUptoRow, standIns := [], harness := (true, "f29e4367e44f41eca3341c73b762d7d015c03544d4d0f78a64b37667f44f967e"), looks := false }, kinds := [], alts := [], laidByText := true, laidKinds := [.data, .data, .data], laidTests := true, laidLooks := .later }
def ProtoManyUptoCardSaid : Prop := Claim7.holds Tryd.pinned (.plain (OpenSpec.upto protoManySpec)) protoManyUptoCard
end Rows
end Go.Proofs.YthlileddhgglnaaDoor
