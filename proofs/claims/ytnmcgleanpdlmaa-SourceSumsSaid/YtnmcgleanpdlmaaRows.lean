/-
  No cell of these rows narrows 'for every input' (looked for: loops, veiled, ifaces, maps, wideKeys, modest, calm, conditions, laid).
  DERIVED. THE GIVEN ROWS OF THIS SEAT. 4 by the template 'for every input the law returns true; each argument reads behind the call as it read before'; 0 by the template 'total and deterministic' (their statements: YtnmcgleanpdlmaaTotals.lean).
  GIVEN WITH THE SEED: the statements are not yours to turn. If you find one false, say at which input.
  Laid BY PROGRAM, IN A SANDBOX (cutbox-rows.mjs): the forced cells as the released guide's own fill.sh prints them over the translation c8ffc324189f926f… (all of the seat's roots in one cut). By AI agents, Wed Nov 11 2026. No macro, syntax, notation, axiom, sorry.
-/
import Derived.Test.YtnmcgleanpdlmaaChecked
import GoSem.Claim
import GoSem.ClaimJoined
import GoSem.ClaimMapViews
import Derived.JoinedTies
import Derived.KernelRfl
namespace Go.Proofs.Ytnmcgleanpdlmaa
/- THE CELL 'sum', in the pinned program and in every row, IS THE sha256 OF THE DUMP (.gsa) THAT YtnmcgleanpdlmaaProg.lean LOADS. Nothing in Lean hashes anything: it is a label: what it is worth is what the hold of that sum in a sandbox is worth. -/
noncomputable def Try.pinned : Pinned := { name := "ytnmcgleanpdlmaa", sum := "c8ffc324189f926fc2eb6042fbf63de819987cd72a543ae6ae8f321547ad1bff", checked := Try.checked }
namespace Rows
def none {H : Type} : Left H := { results := [], args := [] }

/-- 'dipperlaw14.SourceSums': WHATEVER THE INPUT: true; the input reads as it did. -/
def sourceSumsSpec : ChangeSpec := { name := "sourceSums", fn := fun _ => fun
  | [d1, d2, d3, d4, d5, d6] => { results := [.lit (.bool true)], args := [d1, d2, d3, d4, d5, d6] }
  | _ => none }
def sourceSumsRow : OpenClaim := { program := "ytnmcgleanpdlmaa", sum := "c8ffc324189f926fc2eb6042fbf63de819987cd72a543ae6ae8f321547ad1bff", func := "dipper/dipperlaw14.SourceSums", spec := "sourceSums", unfollowed := true, recurses := true, plainKeys := false, apart := false }
def SourceSumsSaid : Prop := sourceSumsRow.holds Try.pinned (OpenSpec.ofChange sourceSumsSpec)

/-- ITS FALSE NEIGHBOUR: 'it returns false'. Refute it at one input. -/
def sourceSumsWrong : ChangeSpec := { name := "sourceSums", fn := fun _ => fun
  | [d1, d2, d3, d4, d5, d6] => { results := [.lit (.bool false)], args := [d1, d2, d3, d4, d5, d6] }
  | _ => none }
def SourceSumsWrongFalsely : Prop := sourceSumsRow.holds Try.pinned (OpenSpec.ofChange sourceSumsWrong)

/-- 'dipperlaw14.SourceSelf': WHATEVER THE INPUT: true; the input reads as it did. -/
def sourceSelfSpec : ChangeSpec := { name := "sourceSelf", fn := fun _ => fun
  | [d1, d2, d3, d4, d5, d6] => { results := [.lit (.bool true)], args := [d1, d2, d3, d4, d5, d6] }
  | _ => none }
def sourceSelfRow : OpenClaim := { program := "ytnmcgleanpdlmaa", sum := "c8ffc324189f926fc2eb6042fbf63de819987cd72a543ae6ae8f321547ad1bff", func := "dipper/dipperlaw14.SourceSelf", spec := "sourceSelf", unfollowed := true, recurses := true, plainKeys := false, apart := false }
def SourceSelfSaid : Prop := sourceSelfRow.holds Try.pinned (OpenSpec.ofChange sourceSelfSpec)

/-- ITS FALSE NEIGHBOUR: 'it returns false'. Refute it at one input. -/
def sourceSelfWrong : ChangeSpec := { name := "sourceSelf", fn := fun _ => fun
  | [d1, d2, d3, d4, d5, d6] => { results := [.lit (.bool false)], args := [d1, d2, d3, d4, d5, d6] }
  | _ => none }
def SourceSelfWrongFalsely : Prop := sourceSelfRow.holds Try.pinned (OpenSpec.ofChange sourceSelfWrong)

/-- 'dipperlaw14.SourceEdges': WHATEVER THE INPUT: true; the input reads as it did. -/
def sourceEdgesSpec : ChangeSpec := { name := "sourceEdges", fn := fun _ => fun
  | [d1, d2] => { results := [.lit (.bool true)], args := [d1, d2] }
  | _ => none }
def sourceEdgesRow : OpenClaim := { program := "ytnmcgleanpdlmaa", sum := "c8ffc324189f926fc2eb6042fbf63de819987cd72a543ae6ae8f321547ad1bff", func := "dipper/dipperlaw14.SourceEdges", spec := "sourceEdges", unfollowed := true, recurses := true, plainKeys := false, apart := false }
def SourceEdgesSaid : Prop := sourceEdgesRow.holds Try.pinned (OpenSpec.ofChange sourceEdgesSpec)

/-- ITS FALSE NEIGHBOUR: 'it returns false'. Refute it at one input. -/
def sourceEdgesWrong : ChangeSpec := { name := "sourceEdges", fn := fun _ => fun
  | [d1, d2] => { results := [.lit (.bool false)], args := [d1, d2] }
  | _ => none }
def SourceEdgesWrongFalsely : Prop := sourceEdgesRow.holds Try.pinned (OpenSpec.ofChange sourceEdgesWrong)

/-- 'dipperlaw14.SourceFills': WHATEVER THE INPUT: true; the input reads as it did. -/
def sourceFillsSpec : ChangeSpec := { name := "sourceFills", fn := fun _ => fun
  | [d1, d2, d3, d4, d5, d6, d7] => { results := [.lit (.bool true)], args := [d1, d2, d3, d4, d5, d6, d7] }
  | _ => none }
def sourceFillsRow : OpenClaim := { program := "ytnmcgleanpdlmaa", sum := "c8ffc324189f926fc2eb6042fbf63de819987cd72a543ae6ae8f321547ad1bff", func := "dipper/dipperlaw14.SourceFills", spec := "sourceFills", unfollowed := true, recurses := true, plainKeys := false, apart := false }
def SourceFillsSaid : Prop := sourceFillsRow.holds Try.pinned (OpenSpec.ofChange sourceFillsSpec)

/-- ITS FALSE NEIGHBOUR: 'it returns false'. Refute it at one input. -/
def sourceFillsWrong : ChangeSpec := { name := "sourceFills", fn := fun _ => fun
  | [d1, d2, d3, d4, d5, d6, d7] => { results := [.lit (.bool false)], args := [d1, d2, d3, d4, d5, d6, d7] }
  | _ => none }
def SourceFillsWrongFalsely : Prop := sourceFillsRow.holds Try.pinned (OpenSpec.ofChange sourceFillsWrong)

/- THE SECOND FORM. 'bulk': how many values and letters a reading holds, each counted each time it is reached (what is shared counts as often as it is met; a slice's spare places count too). A statement '..UptoSaid' is the law's where the arguments, and the package variables that the reading takes, are together of bulk at most 1048576: NARROWER than '..Said'. Prove '..Said' where nothing that the law and all that it calls make is longer than what came in: it says more and counts as full. Else prove '..UptoSaid'. A law counts once. -/
mutual
def uptoBulk {H : Type} : DataW H → Nat
  | .lit (.string bytes) => bytes.length + 1
  | .lit _ => 1
  | .nil => 1
  | .ptr d => uptoBulk d + 1
  | .slice elems spare => uptoBulkAll elems + uptoBulkAll spare + 1
  | .agg parts => uptoBulkAll parts + 1
  | .iface _ d => uptoBulk d + 1
  | .map entries => uptoBulkEntries entries + 1
  | .held _ => 1
def uptoBulkAll {H : Type} : List (DataW H) → Nat
  | [] => 0
  | d :: r => uptoBulk d + uptoBulkAll r
def uptoBulkEntries {H : Type} : List (Lit × DataW H) → Nat
  | [] => 0
  | x :: r => uptoBulkEntry x + uptoBulkEntries r
def uptoBulkEntry {H : Type} : Lit × DataW H → Nat
  | (.string bytes, d) => bytes.length + uptoBulk d + 1
  | (_, d) => uptoBulk d + 1
 end
def uptoSmall : (H : Type) → List (DataW H) → Bool := fun _ ds => decide (uptoBulkAll ds ≤ 1048576)
def OpenSpec.upto (s : _root_.Go.ChangeSpec) : _root_.Go.OpenSpec := { _root_.Go.OpenSpec.ofChange s with cond := some uptoSmall }

/-- 'dipperlaw14.SourceSums', WHERE WHAT IT READS IS OF BULK AT MOST 1048576: true; the input reads as it did. -/
def sourceSumsUptoRow : OpenClaim := { program := "ytnmcgleanpdlmaa", sum := "c8ffc324189f926fc2eb6042fbf63de819987cd72a543ae6ae8f321547ad1bff", func := "dipper/dipperlaw14.SourceSums", spec := "sourceSums", unfollowed := true, recurses := true, plainKeys := false, apart := false, narrowed := true }
def SourceSumsUptoSaid : Prop := sourceSumsUptoRow.holds Try.pinned (OpenSpec.upto sourceSumsSpec)

/-- 'dipperlaw14.SourceSelf', WHERE WHAT IT READS IS OF BULK AT MOST 1048576: true; the input reads as it did. -/
def sourceSelfUptoRow : OpenClaim := { program := "ytnmcgleanpdlmaa", sum := "c8ffc324189f926fc2eb6042fbf63de819987cd72a543ae6ae8f321547ad1bff", func := "dipper/dipperlaw14.SourceSelf", spec := "sourceSelf", unfollowed := true, recurses := true, plainKeys := false, apart := false, narrowed := true }
def SourceSelfUptoSaid : Prop := sourceSelfUptoRow.holds Try.pinned (OpenSpec.upto sourceSelfSpec)

/-- 'dipperlaw14.SourceEdges', WHERE WHAT IT READS IS OF BULK AT MOST 1048576: true; the input reads as it did. -/
def sourceEdgesUptoRow : OpenClaim := { program := "ytnmcgleanpdlmaa", sum := "c8ffc324189f926fc2eb6042fbf63de819987cd72a543ae6ae8f321547ad1bff", func := "dipper/dipperlaw14.SourceEdges", spec := "sourceEdges", unfollowed := true, recurses := true, plainKeys := false, apart := false, narrowed := true }
def SourceEdgesUptoSaid : Prop := sourceEdgesUptoRow.holds Try.pinned (OpenSpec.upto sourceEdgesSpec)

/-- 'dipperlaw14.SourceFills', WHERE WHAT IT READS IS OF BULK AT MOST 1048576: true; the input reads as it did. -/
def sourceFillsUptoRow : OpenClaim := { program := "ytnmcgleanpdlmaa", sum := "c8ffc324189f926fc2eb6042fbf63de819987cd72a543ae6ae8f321547ad1bff", func := "dipper/dipperlaw14.SourceFills", spec := "sourceFills", unfollowed := true, recurses := true, plainKeys := false, apart := false, narrowed := true }
def SourceFillsUptoSaid : Prop := sourceFillsUptoRow.holds Try.pinned (OpenSpec.upto sourceFillsSpec)

end Rows
end Go.Proofs.Ytnmcgleanpdlmaa
