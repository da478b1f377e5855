/-
  No cell of these rows narrows 'for every input' (looked for: loops, veiled, ifaces, maps, wideKeys, modest, calm, conditions, laid).
  DERIVED. THE GIVEN ROWS OF THIS SEAT. 3 by the template 'for every input the law returns true; each argument reads behind the call as it read before'; 0 by the template 'total and deterministic' (their statements: YtglniapfnhedoaaTotals.lean).
  GIVEN WITH THE SEED: the statements are not yours to turn. If you find one false, say at which input.
  Laid BY PROGRAM, IN A SANDBOX (cutbox-rows.mjs): the forced cells as the released guide's own fill.sh prints them over the translation e8b07ec588ece0b0… (all of the seat's roots in one cut). By AI agents, Wed Nov 11 2026. No macro, syntax, notation, axiom, sorry.
-/
import Derived.Test.YtglniapfnhedoaaChecked
import GoSem.Claim
import GoSem.ClaimJoined
import GoSem.ClaimMapViews
import Derived.JoinedTies
import Derived.KernelRfl
namespace Go.Proofs.Ytglniapfnhedoaa
/- THE CELL 'sum', in the pinned program and in every row, IS THE sha256 OF THE DUMP (.gsa) THAT YtglniapfnhedoaaProg.lean LOADS. Nothing in Lean hashes anything: it is a label: what it is worth is what the hold of that sum in a sandbox is worth. -/
noncomputable def Try.pinned : Pinned := { name := "ytglniapfnhedoaa", sum := "e8b07ec588ece0b0beba246fbab7fe087c35d406a128e9e6b52d76ded9292c33", checked := Try.checked }
namespace Rows
def none {H : Type} : Left H := { results := [], args := [] }

/-- 'dipperlaw15.DeadTells': WHATEVER THE INPUT: true; the input reads as it did. -/
def deadTellsSpec : ChangeSpec := { name := "deadTells", fn := fun _ => fun
  | [d1, d2, d3, d4, d5] => { results := [.lit (.bool true)], args := [d1, d2, d3, d4, d5] }
  | _ => none }
def deadTellsRow : OpenClaim := { program := "ytglniapfnhedoaa", sum := "e8b07ec588ece0b0beba246fbab7fe087c35d406a128e9e6b52d76ded9292c33", func := "dipper/dipperlaw15.DeadTells", spec := "deadTells", unfollowed := true, recurses := true, named := ["math/bits.divideError", "math/bits.overflowError"], apart := false }
def DeadTellsSaid : Prop := deadTellsRow.holds Try.pinned (OpenSpec.ofChange deadTellsSpec)

/-- ITS FALSE NEIGHBOUR: 'it returns false'. Refute it at one input. -/
def deadTellsWrong : ChangeSpec := { name := "deadTells", fn := fun _ => fun
  | [d1, d2, d3, d4, d5] => { results := [.lit (.bool false)], args := [d1, d2, d3, d4, d5] }
  | _ => none }
def DeadTellsWrongFalsely : Prop := deadTellsRow.holds Try.pinned (OpenSpec.ofChange deadTellsWrong)

/-- 'dipperlaw15.DeadEdges': WHATEVER THE INPUT: true; the input reads as it did. -/
def deadEdgesSpec : ChangeSpec := { name := "deadEdges", fn := fun _ => fun
  | [d1, d2, d3] => { results := [.lit (.bool true)], args := [d1, d2, d3] }
  | _ => none }
def deadEdgesRow : OpenClaim := { program := "ytglniapfnhedoaa", sum := "e8b07ec588ece0b0beba246fbab7fe087c35d406a128e9e6b52d76ded9292c33", func := "dipper/dipperlaw15.DeadEdges", spec := "deadEdges", unfollowed := true, recurses := true, named := ["math/bits.divideError", "math/bits.overflowError"], apart := false }
def DeadEdgesSaid : Prop := deadEdgesRow.holds Try.pinned (OpenSpec.ofChange deadEdgesSpec)

/-- ITS FALSE NEIGHBOUR: 'it returns false'. Refute it at one input. -/
def deadEdgesWrong : ChangeSpec := { name := "deadEdges", fn := fun _ => fun
  | [d1, d2, d3] => { results := [.lit (.bool false)], args := [d1, d2, d3] }
  | _ => none }
def DeadEdgesWrongFalsely : Prop := deadEdgesRow.holds Try.pinned (OpenSpec.ofChange deadEdgesWrong)

/-- 'dipperlaw15.DeadLines': WHATEVER THE INPUT: true; the input reads as it did. -/
def deadLinesSpec : ChangeSpec := { name := "deadLines", fn := fun _ => fun
  | [d1, d2, d3, d4, d5] => { results := [.lit (.bool true)], args := [d1, d2, d3, d4, d5] }
  | _ => none }
def deadLinesRow : OpenClaim := { program := "ytglniapfnhedoaa", sum := "e8b07ec588ece0b0beba246fbab7fe087c35d406a128e9e6b52d76ded9292c33", func := "dipper/dipperlaw15.DeadLines", spec := "deadLines", unfollowed := true, recurses := true, named := ["math/bits.divideError", "math/bits.overflowError"], apart := false }
def DeadLinesSaid : Prop := deadLinesRow.holds Try.pinned (OpenSpec.ofChange deadLinesSpec)

/-- ITS FALSE NEIGHBOUR: 'it returns false'. Refute it at one input. -/
def deadLinesWrong : ChangeSpec := { name := "deadLines", fn := fun _ => fun
  | [d1, d2, d3, d4, d5] => { results := [.lit (.bool false)], args := [d1, d2, d3, d4, d5] }
  | _ => none }
def DeadLinesWrongFalsely : Prop := deadLinesRow.holds Try.pinned (OpenSpec.ofChange deadLinesWrong)

/- THE SECOND FORM. 'bulk': how many values and letters a reading holds, each counted each time it is reached (what is shared counts as often as it is met; a slice's spare places count too). A statement '..UptoSaid' is the law's where the arguments, and the package variables that the reading takes, are together of bulk at most 1048576: NARROWER than '..Said'. Prove '..Said' where nothing that the law and all that it calls make is longer than what came in: it says more and counts as full. Else prove '..UptoSaid'. A law counts once. -/
mutual
def uptoBulk {H : Type} : DataW H → Nat
  | .lit (.string bytes) => bytes.length + 1
  | .lit _ => 1
  | .nil => 1
  | .ptr d => uptoBulk d + 1
  | .slice elems spare => uptoBulkAll elems + uptoBulkAll spare + 1
  | .agg parts => uptoBulkAll parts + 1
  | .iface _ d => uptoBulk d + 1
  | .map entries => uptoBulkEntries entries + 1
  | .held _ => 1
def uptoBulkAll {H : Type} : List (DataW H) → Nat
  | [] => 0
  | d :: r => uptoBulk d + uptoBulkAll r
def uptoBulkEntries {H : Type} : List (Lit × DataW H) → Nat
  | [] => 0
  | x :: r => uptoBulkEntry x + uptoBulkEntries r
def uptoBulkEntry {H : Type} : Lit × DataW H → Nat
  | (.string bytes, d) => bytes.length + uptoBulk d + 1
  | (_, d) => uptoBulk d + 1
 end
def uptoSmall : (H : Type) → List (DataW H) → Bool := fun _ ds => decide (uptoBulkAll ds ≤ 1048576)
def OpenSpec.upto (s : _root_.Go.ChangeSpec) : _root_.Go.OpenSpec := { _root_.Go.OpenSpec.ofChange s with cond := some uptoSmall }

/-- 'dipperlaw15.DeadTells', WHERE WHAT IT READS IS OF BULK AT MOST 1048576: true; the input reads as it did. -/
def deadTellsUptoRow : OpenClaim := { program := "ytglniapfnhedoaa", sum := "e8b07ec588ece0b0beba246fbab7fe087c35d406a128e9e6b52d76ded9292c33", func := "dipper/dipperlaw15.DeadTells", spec := "deadTells", unfollowed := true, recurses := true, named := ["math/bits.divideError", "math/bits.overflowError"], apart := false, narrowed := true }
def DeadTellsUptoSaid : Prop := deadTellsUptoRow.holds Try.pinned (OpenSpec.upto deadTellsSpec)

/-- 'dipperlaw15.DeadEdges', WHERE WHAT IT READS IS OF BULK AT MOST 1048576: true; the input reads as it did. -/
def deadEdgesUptoRow : OpenClaim := { program := "ytglniapfnhedoaa", sum := "e8b07ec588ece0b0beba246fbab7fe087c35d406a128e9e6b52d76ded9292c33", func := "dipper/dipperlaw15.DeadEdges", spec := "deadEdges", unfollowed := true, recurses := true, named := ["math/bits.divideError", "math/bits.overflowError"], apart := false, narrowed := true }
def DeadEdgesUptoSaid : Prop := deadEdgesUptoRow.holds Try.pinned (OpenSpec.upto deadEdgesSpec)

/-- 'dipperlaw15.DeadLines', WHERE WHAT IT READS IS OF BULK AT MOST 1048576: true; the input reads as it did. -/
def deadLinesUptoRow : OpenClaim := { program := "ytglniapfnhedoaa", sum := "e8b07ec588ece0b0beba246fbab7fe087c35d406a128e9e6b52d76ded9292c33", func := "dipper/dipperlaw15.DeadLines", spec := "deadLines", unfollowed := true, recurses := true, named := ["math/bits.divideError", "math/bits.overflowError"], apart := false, narrowed := true }
def DeadLinesUptoSaid : Prop := deadLinesUptoRow.holds Try.pinned (OpenSpec.upto deadLinesSpec)

end Rows
end Go.Proofs.Ytglniapfnhedoaa
