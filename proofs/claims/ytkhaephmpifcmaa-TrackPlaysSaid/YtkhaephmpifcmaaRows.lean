/-
  No cell of these rows narrows 'for every input' (looked for: loops, veiled, ifaces, maps, wideKeys, modest, calm, conditions, laid).
  DERIVED. THE GIVEN ROWS OF THIS SEAT. 4 by the template 'for every input the law returns true; each argument reads behind the call as it read before'; 0 by the template 'total and deterministic' (their statements: YtkhaephmpifcmaaTotals.lean).
  GIVEN WITH THE SEED: the statements are not yours to turn. If you find one false, say at which input.
  Laid BY PROGRAM, IN A SANDBOX (cutbox-rows.mjs): the forced cells as the released guide's own fill.sh prints them over the translation caaa2b3e312ea9a5… (all of the seat's roots in one cut). By AI agents, Wed Nov 11 2026. No macro, syntax, notation, axiom, sorry.
-/
import Derived.Test.YtkhaephmpifcmaaChecked
import GoSem.Claim
import GoSem.ClaimJoined
import GoSem.ClaimMapViews
import Derived.JoinedTies
import Derived.KernelRfl
namespace Go.Proofs.Ytkhaephmpifcmaa
/- THE CELL 'sum', in the pinned program and in every row, IS THE sha256 OF THE DUMP (.gsa) THAT YtkhaephmpifcmaaProg.lean LOADS. Nothing in Lean hashes anything: it is a label: what it is worth is what the hold of that sum in a sandbox is worth. -/
noncomputable def Try.pinned : Pinned := { name := "ytkhaephmpifcmaa", sum := "caaa2b3e312ea9a56d2cbfb8b75f3357a464c9056e20786a9162c9b5e5b9c8f1", checked := Try.checked }
namespace Rows
def none {H : Type} : Left H := { results := [], args := [] }

/-- 'dipperlaw17.TrackPlays': WHATEVER THE INPUT: true; the input reads as it did. -/
def trackPlaysSpec : ChangeSpec := { name := "trackPlays", fn := fun _ => fun
  | [d1, d2, d3, d4, d5, d6] => { results := [.lit (.bool true)], args := [d1, d2, d3, d4, d5, d6] }
  | _ => none }
def trackPlaysRow : OpenClaim := { program := "ytkhaephmpifcmaa", sum := "caaa2b3e312ea9a56d2cbfb8b75f3357a464c9056e20786a9162c9b5e5b9c8f1", func := "dipper/dipperlaw17.TrackPlays", spec := "trackPlays", plainKeys := false, apart := false }
def TrackPlaysSaid : Prop := trackPlaysRow.holds Try.pinned (OpenSpec.ofChange trackPlaysSpec)

/-- ITS FALSE NEIGHBOUR: 'it returns false'. Refute it at one input. -/
def trackPlaysWrong : ChangeSpec := { name := "trackPlays", fn := fun _ => fun
  | [d1, d2, d3, d4, d5, d6] => { results := [.lit (.bool false)], args := [d1, d2, d3, d4, d5, d6] }
  | _ => none }
def TrackPlaysWrongFalsely : Prop := trackPlaysRow.holds Try.pinned (OpenSpec.ofChange trackPlaysWrong)

/-- 'dipperlaw17.TrackHolds': WHATEVER THE INPUT: true; the input reads as it did. -/
def trackHoldsSpec : ChangeSpec := { name := "trackHolds", fn := fun _ => fun
  | [d1, d2, d3, d4, d5, d6, d7] => { results := [.lit (.bool true)], args := [d1, d2, d3, d4, d5, d6, d7] }
  | _ => none }
def trackHoldsRow : OpenClaim := { program := "ytkhaephmpifcmaa", sum := "caaa2b3e312ea9a56d2cbfb8b75f3357a464c9056e20786a9162c9b5e5b9c8f1", func := "dipper/dipperlaw17.TrackHolds", spec := "trackHolds", plainKeys := false, apart := false }
def TrackHoldsSaid : Prop := trackHoldsRow.holds Try.pinned (OpenSpec.ofChange trackHoldsSpec)

/-- ITS FALSE NEIGHBOUR: 'it returns false'. Refute it at one input. -/
def trackHoldsWrong : ChangeSpec := { name := "trackHolds", fn := fun _ => fun
  | [d1, d2, d3, d4, d5, d6, d7] => { results := [.lit (.bool false)], args := [d1, d2, d3, d4, d5, d6, d7] }
  | _ => none }
def TrackHoldsWrongFalsely : Prop := trackHoldsRow.holds Try.pinned (OpenSpec.ofChange trackHoldsWrong)

/-- 'dipperlaw17.TrackSums': WHATEVER THE INPUT: true; the input reads as it did. -/
def trackSumsSpec : ChangeSpec := { name := "trackSums", fn := fun _ => fun
  | [d1, d2, d3, d4, d5, d6, d7, d8] => { results := [.lit (.bool true)], args := [d1, d2, d3, d4, d5, d6, d7, d8] }
  | _ => none }
def trackSumsRow : OpenClaim := { program := "ytkhaephmpifcmaa", sum := "caaa2b3e312ea9a56d2cbfb8b75f3357a464c9056e20786a9162c9b5e5b9c8f1", func := "dipper/dipperlaw17.TrackSums", spec := "trackSums", plainKeys := false, apart := false }
def TrackSumsSaid : Prop := trackSumsRow.holds Try.pinned (OpenSpec.ofChange trackSumsSpec)

/-- ITS FALSE NEIGHBOUR: 'it returns false'. Refute it at one input. -/
def trackSumsWrong : ChangeSpec := { name := "trackSums", fn := fun _ => fun
  | [d1, d2, d3, d4, d5, d6, d7, d8] => { results := [.lit (.bool false)], args := [d1, d2, d3, d4, d5, d6, d7, d8] }
  | _ => none }
def TrackSumsWrongFalsely : Prop := trackSumsRow.holds Try.pinned (OpenSpec.ofChange trackSumsWrong)

/-- 'dipperlaw17.TrackEmpty': WHATEVER THE INPUT: true; the input reads as it did. -/
def trackEmptySpec : ChangeSpec := { name := "trackEmpty", fn := fun _ => fun
  | [d1, d2, d3] => { results := [.lit (.bool true)], args := [d1, d2, d3] }
  | _ => none }
def trackEmptyRow : OpenClaim := { program := "ytkhaephmpifcmaa", sum := "caaa2b3e312ea9a56d2cbfb8b75f3357a464c9056e20786a9162c9b5e5b9c8f1", func := "dipper/dipperlaw17.TrackEmpty", spec := "trackEmpty", plainKeys := false, apart := false }
def TrackEmptySaid : Prop := trackEmptyRow.holds Try.pinned (OpenSpec.ofChange trackEmptySpec)

/-- ITS FALSE NEIGHBOUR: 'it returns false'. Refute it at one input. -/
def trackEmptyWrong : ChangeSpec := { name := "trackEmpty", fn := fun _ => fun
  | [d1, d2, d3] => { results := [.lit (.bool false)], args := [d1, d2, d3] }
  | _ => none }
def TrackEmptyWrongFalsely : Prop := trackEmptyRow.holds Try.pinned (OpenSpec.ofChange trackEmptyWrong)

/- THE SECOND FORM. 'bulk': how many values and letters a reading holds, each counted each time it is reached (what is shared counts as often as it is met; a slice's spare places count too). A statement '..UptoSaid' is the law's where the arguments, and the package variables that the reading takes, are together of bulk at most 1048576: NARROWER than '..Said'. Prove '..Said' where nothing that the law and all that it calls make is longer than what came in: it says more and counts as full. Else prove '..UptoSaid'. A law counts once. -/
mutual
def uptoBulk {H : Type} : DataW H → Nat
  | .lit (.string bytes) => bytes.length + 1
  | .lit _ => 1
  | .nil => 1
  | .ptr d => uptoBulk d + 1
  | .slice elems spare => uptoBulkAll elems + uptoBulkAll spare + 1
  | .agg parts => uptoBulkAll parts + 1
  | .iface _ d => uptoBulk d + 1
  | .map entries => uptoBulkEntries entries + 1
  | .held _ => 1
def uptoBulkAll {H : Type} : List (DataW H) → Nat
  | [] => 0
  | d :: r => uptoBulk d + uptoBulkAll r
def uptoBulkEntries {H : Type} : List (Lit × DataW H) → Nat
  | [] => 0
  | x :: r => uptoBulkEntry x + uptoBulkEntries r
def uptoBulkEntry {H : Type} : Lit × DataW H → Nat
  | (.string bytes, d) => bytes.length + uptoBulk d + 1
  | (_, d) => uptoBulk d + 1
 end
def uptoSmall : (H : Type) → List (DataW H) → Bool := fun _ ds => decide (uptoBulkAll ds ≤ 1048576)
def OpenSpec.upto (s : _root_.Go.ChangeSpec) : _root_.Go.OpenSpec := { _root_.Go.OpenSpec.ofChange s with cond := some uptoSmall }

/-- 'dipperlaw17.TrackPlays', WHERE WHAT IT READS IS OF BULK AT MOST 1048576: true; the input reads as it did. -/
def trackPlaysUptoRow : OpenClaim := { program := "ytkhaephmpifcmaa", sum := "caaa2b3e312ea9a56d2cbfb8b75f3357a464c9056e20786a9162c9b5e5b9c8f1", func := "dipper/dipperlaw17.TrackPlays", spec := "trackPlays", plainKeys := false, apart := false, narrowed := true }
def TrackPlaysUptoSaid : Prop := trackPlaysUptoRow.holds Try.pinned (OpenSpec.upto trackPlaysSpec)

/-- 'dipperlaw17.TrackHolds', WHERE WHAT IT READS IS OF BULK AT MOST 1048576: true; the input reads as it did. -/
def trackHoldsUptoRow : OpenClaim := { program := "ytkhaephmpifcmaa", sum := "caaa2b3e312ea9a56d2cbfb8b75f3357a464c9056e20786a9162c9b5e5b9c8f1", func := "dipper/dipperlaw17.TrackHolds", spec := "trackHolds", plainKeys := false, apart := false, narrowed := true }
def TrackHoldsUptoSaid : Prop := trackHoldsUptoRow.holds Try.pinned (OpenSpec.upto trackHoldsSpec)

/-- 'dipperlaw17.TrackSums', WHERE WHAT IT READS IS OF BULK AT MOST 1048576: true; the input reads as it did. -/
def trackSumsUptoRow : OpenClaim := { program := "ytkhaephmpifcmaa", sum := "caaa2b3e312ea9a56d2cbfb8b75f3357a464c9056e20786a9162c9b5e5b9c8f1", func := "dipper/dipperlaw17.TrackSums", spec := "trackSums", plainKeys := false, apart := false, narrowed := true }
def TrackSumsUptoSaid : Prop := trackSumsUptoRow.holds Try.pinned (OpenSpec.upto trackSumsSpec)

/-- 'dipperlaw17.TrackEmpty', WHERE WHAT IT READS IS OF BULK AT MOST 1048576: true; the input reads as it did. -/
def trackEmptyUptoRow : OpenClaim := { program := "ytkhaephmpifcmaa", sum := "caaa2b3e312ea9a56d2cbfb8b75f3357a464c9056e20786a9162c9b5e5b9c8f1", func := "dipper/dipperlaw17.TrackEmpty", spec := "trackEmpty", plainKeys := false, apart := false, narrowed := true }
def TrackEmptyUptoSaid : Prop := trackEmptyUptoRow.holds Try.pinned (OpenSpec.upto trackEmptySpec)

end Rows
end Go.Proofs.Ytkhaephmpifcmaa
