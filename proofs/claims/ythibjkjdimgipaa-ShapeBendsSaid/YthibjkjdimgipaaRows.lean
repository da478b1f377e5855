/-
  No cell of these rows narrows 'for every input' (looked for: loops, veiled, ifaces, maps, wideKeys, modest, calm, conditions, laid).
  DERIVED. THE GIVEN ROWS OF THIS SEAT. 3 by the template 'for every input the law returns true; each argument reads behind the call as it read before'; 0 by the template 'total and deterministic' (their statements: YthibjkjdimgipaaTotals.lean).
  GIVEN WITH THE SEED: the statements are not yours to turn. If you find one false, say at which input.
  Laid BY PROGRAM, IN A SANDBOX (cutbox-rows.mjs): the forced cells as the released guide's own fill.sh prints them over the translation 08ed2c8ec2974928… (all of the seat's roots in one cut). By AI agents, Wed Nov 11 2026. No macro, syntax, notation, axiom, sorry.
-/
import Derived.Test.YthibjkjdimgipaaChecked
import GoSem.Claim
import GoSem.ClaimJoined
import GoSem.ClaimMapViews
import Derived.JoinedTies
import Derived.KernelRfl
namespace Go.Proofs.Ythibjkjdimgipaa
/- THE CELL 'sum', in the pinned program and in every row, IS THE sha256 OF THE DUMP (.gsa) THAT YthibjkjdimgipaaProg.lean LOADS. Nothing in Lean hashes anything: it is a label: what it is worth is what the hold of that sum in a sandbox is worth. -/
noncomputable def Try.pinned : Pinned := { name := "ythibjkjdimgipaa", sum := "08ed2c8ec29749288da879c459654eb67164cb747f5aa04400a3cbed80cd124d", checked := Try.checked }
namespace Rows
def none {H : Type} : Left H := { results := [], args := [] }

/-- 'dipperlaw3.ShapeStraight': WHATEVER THE INPUT: true; the input reads as it did. -/
def shapeStraightSpec : ChangeSpec := { name := "shapeStraight", fn := fun _ => fun
  | [d1, d2, d3, d4] => { results := [.lit (.bool true)], args := [d1, d2, d3, d4] }
  | _ => none }
def shapeStraightRow : OpenClaim := { program := "ythibjkjdimgipaa", sum := "08ed2c8ec29749288da879c459654eb67164cb747f5aa04400a3cbed80cd124d", func := "dipper/dipperlaw3.ShapeStraight", spec := "shapeStraight", named := ["math/bits.divideError", "math/bits.overflowError"], apart := false }
def ShapeStraightSaid : Prop := shapeStraightRow.holds Try.pinned (OpenSpec.ofChange shapeStraightSpec)

/-- ITS FALSE NEIGHBOUR: 'it returns false'. Refute it at one input. -/
def shapeStraightWrong : ChangeSpec := { name := "shapeStraight", fn := fun _ => fun
  | [d1, d2, d3, d4] => { results := [.lit (.bool false)], args := [d1, d2, d3, d4] }
  | _ => none }
def ShapeStraightWrongFalsely : Prop := shapeStraightRow.holds Try.pinned (OpenSpec.ofChange shapeStraightWrong)

/-- 'dipperlaw3.ShapeBends': WHATEVER THE INPUT: true; the input reads as it did. -/
def shapeBendsSpec : ChangeSpec := { name := "shapeBends", fn := fun _ => fun
  | [d1, d2, d3, d4] => { results := [.lit (.bool true)], args := [d1, d2, d3, d4] }
  | _ => none }
def shapeBendsRow : OpenClaim := { program := "ythibjkjdimgipaa", sum := "08ed2c8ec29749288da879c459654eb67164cb747f5aa04400a3cbed80cd124d", func := "dipper/dipperlaw3.ShapeBends", spec := "shapeBends", named := ["math/bits.divideError", "math/bits.overflowError"], apart := false }
def ShapeBendsSaid : Prop := shapeBendsRow.holds Try.pinned (OpenSpec.ofChange shapeBendsSpec)

/-- ITS FALSE NEIGHBOUR: 'it returns false'. Refute it at one input. -/
def shapeBendsWrong : ChangeSpec := { name := "shapeBends", fn := fun _ => fun
  | [d1, d2, d3, d4] => { results := [.lit (.bool false)], args := [d1, d2, d3, d4] }
  | _ => none }
def ShapeBendsWrongFalsely : Prop := shapeBendsRow.holds Try.pinned (OpenSpec.ofChange shapeBendsWrong)

/-- 'dipperlaw3.ShapeEnds': WHATEVER THE INPUT: true; the input reads as it did. -/
def shapeEndsSpec : ChangeSpec := { name := "shapeEnds", fn := fun _ => fun
  | [d1, d2, d3] => { results := [.lit (.bool true)], args := [d1, d2, d3] }
  | _ => none }
def shapeEndsRow : OpenClaim := { program := "ythibjkjdimgipaa", sum := "08ed2c8ec29749288da879c459654eb67164cb747f5aa04400a3cbed80cd124d", func := "dipper/dipperlaw3.ShapeEnds", spec := "shapeEnds", named := ["math/bits.divideError", "math/bits.overflowError"], apart := false }
def ShapeEndsSaid : Prop := shapeEndsRow.holds Try.pinned (OpenSpec.ofChange shapeEndsSpec)

/-- ITS FALSE NEIGHBOUR: 'it returns false'. Refute it at one input. -/
def shapeEndsWrong : ChangeSpec := { name := "shapeEnds", fn := fun _ => fun
  | [d1, d2, d3] => { results := [.lit (.bool false)], args := [d1, d2, d3] }
  | _ => none }
def ShapeEndsWrongFalsely : Prop := shapeEndsRow.holds Try.pinned (OpenSpec.ofChange shapeEndsWrong)

/- THE SECOND FORM. 'bulk': how many values and letters a reading holds, each counted each time it is reached (what is shared counts as often as it is met; a slice's spare places count too). A statement '..UptoSaid' is the law's where the arguments, and the package variables that the reading takes, are together of bulk at most 1048576: NARROWER than '..Said'. Prove '..Said' where nothing that the law and all that it calls make is longer than what came in: it says more and counts as full. Else prove '..UptoSaid'. A law counts once. -/
mutual
def uptoBulk {H : Type} : DataW H → Nat
  | .lit (.string bytes) => bytes.length + 1
  | .lit _ => 1
  | .nil => 1
  | .ptr d => uptoBulk d + 1
  | .slice elems spare => uptoBulkAll elems + uptoBulkAll spare + 1
  | .agg parts => uptoBulkAll parts + 1
  | .iface _ d => uptoBulk d + 1
  | .map entries => uptoBulkEntries entries + 1
  | .held _ => 1
def uptoBulkAll {H : Type} : List (DataW H) → Nat
  | [] => 0
  | d :: r => uptoBulk d + uptoBulkAll r
def uptoBulkEntries {H : Type} : List (Lit × DataW H) → Nat
  | [] => 0
  | x :: r => uptoBulkEntry x + uptoBulkEntries r
def uptoBulkEntry {H : Type} : Lit × DataW H → Nat
  | (.string bytes, d) => bytes.length + uptoBulk d + 1
  | (_, d) => uptoBulk d + 1
 end
def uptoSmall : (H : Type) → List (DataW H) → Bool := fun _ ds => decide (uptoBulkAll ds ≤ 1048576)
def OpenSpec.upto (s : _root_.Go.ChangeSpec) : _root_.Go.OpenSpec := { _root_.Go.OpenSpec.ofChange s with cond := some uptoSmall }

/-- 'dipperlaw3.ShapeStraight', WHERE WHAT IT READS IS OF BULK AT MOST 1048576: true; the input reads as it did. -/
def shapeStraightUptoRow : OpenClaim := { program := "ythibjkjdimgipaa", sum := "08ed2c8ec29749288da879c459654eb67164cb747f5aa04400a3cbed80cd124d", func := "dipper/dipperlaw3.ShapeStraight", spec := "shapeStraight", named := ["math/bits.divideError", "math/bits.overflowError"], apart := false, narrowed := true }
def ShapeStraightUptoSaid : Prop := shapeStraightUptoRow.holds Try.pinned (OpenSpec.upto shapeStraightSpec)

/-- 'dipperlaw3.ShapeBends', WHERE WHAT IT READS IS OF BULK AT MOST 1048576: true; the input reads as it did. -/
def shapeBendsUptoRow : OpenClaim := { program := "ythibjkjdimgipaa", sum := "08ed2c8ec29749288da879c459654eb67164cb747f5aa04400a3cbed80cd124d", func := "dipper/dipperlaw3.ShapeBends", spec := "shapeBends", named := ["math/bits.divideError", "math/bits.overflowError"], apart := false, narrowed := true }
def ShapeBendsUptoSaid : Prop := shapeBendsUptoRow.holds Try.pinned (OpenSpec.upto shapeBendsSpec)

/-- 'dipperlaw3.ShapeEnds', WHERE WHAT IT READS IS OF BULK AT MOST 1048576: true; the input reads as it did. -/
def shapeEndsUptoRow : OpenClaim := { program := "ythibjkjdimgipaa", sum := "08ed2c8ec29749288da879c459654eb67164cb747f5aa04400a3cbed80cd124d", func := "dipper/dipperlaw3.ShapeEnds", spec := "shapeEnds", named := ["math/bits.divideError", "math/bits.overflowError"], apart := false, narrowed := true }
def ShapeEndsUptoSaid : Prop := shapeEndsUptoRow.holds Try.pinned (OpenSpec.upto shapeEndsSpec)

end Rows
end Go.Proofs.Ythibjkjdimgipaa
