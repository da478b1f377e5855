/-
  No cell of these rows narrows 'for every input' (looked for: loops, veiled, ifaces, maps, wideKeys, modest, calm, conditions, laid).
  DERIVED. THE GIVEN ROWS OF THIS SEAT. 4 by the template 'for every input the law returns true; each argument reads behind the call as it read before'; 0 by the template 'total and deterministic' (their statements: YtiblhebenhiijaaTotals.lean).
  GIVEN WITH THE SEED: the statements are not yours to turn. If you find one false, say at which input.
  Laid BY PROGRAM, IN A SANDBOX (cutbox-rows.mjs): the forced cells as the released guide's own fill.sh prints them over the translation 8f3a9b071916e048… (all of the seat's roots in one cut). By AI agents, Wed Nov 11 2026. No macro, syntax, notation, axiom, sorry.
-/
import Derived.Test.YtiblhebenhiijaaChecked
import GoSem.Claim
import GoSem.ClaimJoined
import GoSem.ClaimMapViews
import Derived.JoinedTies
import Derived.KernelRfl
namespace Go.Proofs.Ytiblhebenhiijaa
/- THE CELL 'sum', in the pinned program and in every row, IS THE sha256 OF THE DUMP (.gsa) THAT YtiblhebenhiijaaProg.lean LOADS. Nothing in Lean hashes anything: it is a label: what it is worth is what the hold of that sum in a sandbox is worth. -/
noncomputable def Try.pinned : Pinned := { name := "ytiblhebenhiijaa", sum := "8f3a9b071916e048d10e151cbce820847dc3bd3a80bc38fbfd76002c0d4918ab", checked := Try.checked }
namespace Rows
def none {H : Type} : Left H := { results := [], args := [] }

/-- 'dipperlaw16.ChunkTells': WHATEVER THE INPUT: true; the input reads as it did. -/
def chunkTellsSpec : ChangeSpec := { name := "chunkTells", fn := fun _ => fun
  | [d1, d2, d3, d4, d5, d6] => { results := [.lit (.bool true)], args := [d1, d2, d3, d4, d5, d6] }
  | _ => none }
def chunkTellsRow : OpenClaim := { program := "ytiblhebenhiijaa", sum := "8f3a9b071916e048d10e151cbce820847dc3bd3a80bc38fbfd76002c0d4918ab", func := "dipper/dipperlaw16.ChunkTells", spec := "chunkTells", apart := false }
def ChunkTellsSaid : Prop := chunkTellsRow.holds Try.pinned (OpenSpec.ofChange chunkTellsSpec)

/-- ITS FALSE NEIGHBOUR: 'it returns false'. Refute it at one input. -/
def chunkTellsWrong : ChangeSpec := { name := "chunkTells", fn := fun _ => fun
  | [d1, d2, d3, d4, d5, d6] => { results := [.lit (.bool false)], args := [d1, d2, d3, d4, d5, d6] }
  | _ => none }
def ChunkTellsWrongFalsely : Prop := chunkTellsRow.holds Try.pinned (OpenSpec.ofChange chunkTellsWrong)

/-- 'dipperlaw16.ChunkSums': WHATEVER THE INPUT: true; the input reads as it did. -/
def chunkSumsSpec : ChangeSpec := { name := "chunkSums", fn := fun _ => fun
  | [d1, d2, d3] => { results := [.lit (.bool true)], args := [d1, d2, d3] }
  | _ => none }
def chunkSumsRow : OpenClaim := { program := "ytiblhebenhiijaa", sum := "8f3a9b071916e048d10e151cbce820847dc3bd3a80bc38fbfd76002c0d4918ab", func := "dipper/dipperlaw16.ChunkSums", spec := "chunkSums", apart := false }
def ChunkSumsSaid : Prop := chunkSumsRow.holds Try.pinned (OpenSpec.ofChange chunkSumsSpec)

/-- ITS FALSE NEIGHBOUR: 'it returns false'. Refute it at one input. -/
def chunkSumsWrong : ChangeSpec := { name := "chunkSums", fn := fun _ => fun
  | [d1, d2, d3] => { results := [.lit (.bool false)], args := [d1, d2, d3] }
  | _ => none }
def ChunkSumsWrongFalsely : Prop := chunkSumsRow.holds Try.pinned (OpenSpec.ofChange chunkSumsWrong)

/-- 'dipperlaw16.ChunkEven': WHATEVER THE INPUT: true; the input reads as it did. -/
def chunkEvenSpec : ChangeSpec := { name := "chunkEven", fn := fun _ => fun
  | [d1, d2, d3, d4] => { results := [.lit (.bool true)], args := [d1, d2, d3, d4] }
  | _ => none }
def chunkEvenRow : OpenClaim := { program := "ytiblhebenhiijaa", sum := "8f3a9b071916e048d10e151cbce820847dc3bd3a80bc38fbfd76002c0d4918ab", func := "dipper/dipperlaw16.ChunkEven", spec := "chunkEven", apart := false }
def ChunkEvenSaid : Prop := chunkEvenRow.holds Try.pinned (OpenSpec.ofChange chunkEvenSpec)

/-- ITS FALSE NEIGHBOUR: 'it returns false'. Refute it at one input. -/
def chunkEvenWrong : ChangeSpec := { name := "chunkEven", fn := fun _ => fun
  | [d1, d2, d3, d4] => { results := [.lit (.bool false)], args := [d1, d2, d3, d4] }
  | _ => none }
def ChunkEvenWrongFalsely : Prop := chunkEvenRow.holds Try.pinned (OpenSpec.ofChange chunkEvenWrong)

/-- 'dipperlaw16.ChunkCaps': WHATEVER THE INPUT: true; the input reads as it did. -/
def chunkCapsSpec : ChangeSpec := { name := "chunkCaps", fn := fun _ => fun
  | [d1, d2, d3] => { results := [.lit (.bool true)], args := [d1, d2, d3] }
  | _ => none }
def chunkCapsRow : OpenClaim := { program := "ytiblhebenhiijaa", sum := "8f3a9b071916e048d10e151cbce820847dc3bd3a80bc38fbfd76002c0d4918ab", func := "dipper/dipperlaw16.ChunkCaps", spec := "chunkCaps", apart := false }
def ChunkCapsSaid : Prop := chunkCapsRow.holds Try.pinned (OpenSpec.ofChange chunkCapsSpec)

/-- ITS FALSE NEIGHBOUR: 'it returns false'. Refute it at one input. -/
def chunkCapsWrong : ChangeSpec := { name := "chunkCaps", fn := fun _ => fun
  | [d1, d2, d3] => { results := [.lit (.bool false)], args := [d1, d2, d3] }
  | _ => none }
def ChunkCapsWrongFalsely : Prop := chunkCapsRow.holds Try.pinned (OpenSpec.ofChange chunkCapsWrong)

/- THE SECOND FORM. 'bulk': how many values and letters a reading holds, each counted each time it is reached (what is shared counts as often as it is met; a slice's spare places count too). A statement '..UptoSaid' is the law's where the arguments, and the package variables that the reading takes, are together of bulk at most 1048576: NARROWER than '..Said'. Prove '..Said' where nothing that the law and all that it calls make is longer than what came in: it says more and counts as full. Else prove '..UptoSaid'. A law counts once. -/
mutual
def uptoBulk {H : Type} : DataW H → Nat
  | .lit (.string bytes) => bytes.length + 1
  | .lit _ => 1
  | .nil => 1
  | .ptr d => uptoBulk d + 1
  | .slice elems spare => uptoBulkAll elems + uptoBulkAll spare + 1
  | .agg parts => uptoBulkAll parts + 1
  | .iface _ d => uptoBulk d + 1
  | .map entries => uptoBulkEntries entries + 1
  | .held _ => 1
def uptoBulkAll {H : Type} : List (DataW H) → Nat
  | [] => 0
  | d :: r => uptoBulk d + uptoBulkAll r
def uptoBulkEntries {H : Type} : List (Lit × DataW H) → Nat
  | [] => 0
  | x :: r => uptoBulkEntry x + uptoBulkEntries r
def uptoBulkEntry {H : Type} : Lit × DataW H → Nat
  | (.string bytes, d) => bytes.length + uptoBulk d + 1
  | (_, d) => uptoBulk d + 1
 end
def uptoSmall : (H : Type) → List (DataW H) → Bool := fun _ ds => decide (uptoBulkAll ds ≤ 1048576)
def OpenSpec.upto (s : _root_.Go.ChangeSpec) : _root_.Go.OpenSpec := { _root_.Go.OpenSpec.ofChange s with cond := some uptoSmall }

/-- 'dipperlaw16.ChunkTells', WHERE WHAT IT READS IS OF BULK AT MOST 1048576: true; the input reads as it did. -/
def chunkTellsUptoRow : OpenClaim := { program := "ytiblhebenhiijaa", sum := "8f3a9b071916e048d10e151cbce820847dc3bd3a80bc38fbfd76002c0d4918ab", func := "dipper/dipperlaw16.ChunkTells", spec := "chunkTells", apart := false, narrowed := true }
def ChunkTellsUptoSaid : Prop := chunkTellsUptoRow.holds Try.pinned (OpenSpec.upto chunkTellsSpec)

/-- 'dipperlaw16.ChunkSums', WHERE WHAT IT READS IS OF BULK AT MOST 1048576: true; the input reads as it did. -/
def chunkSumsUptoRow : OpenClaim := { program := "ytiblhebenhiijaa", sum := "8f3a9b071916e048d10e151cbce820847dc3bd3a80bc38fbfd76002c0d4918ab", func := "dipper/dipperlaw16.ChunkSums", spec := "chunkSums", apart := false, narrowed := true }
def ChunkSumsUptoSaid : Prop := chunkSumsUptoRow.holds Try.pinned (OpenSpec.upto chunkSumsSpec)

/-- 'dipperlaw16.ChunkEven', WHERE WHAT IT READS IS OF BULK AT MOST 1048576: true; the input reads as it did. -/
def chunkEvenUptoRow : OpenClaim := { program := "ytiblhebenhiijaa", sum := "8f3a9b071916e048d10e151cbce820847dc3bd3a80bc38fbfd76002c0d4918ab", func := "dipper/dipperlaw16.ChunkEven", spec := "chunkEven", apart := false, narrowed := true }
def ChunkEvenUptoSaid : Prop := chunkEvenUptoRow.holds Try.pinned (OpenSpec.upto chunkEvenSpec)

/-- 'dipperlaw16.ChunkCaps', WHERE WHAT IT READS IS OF BULK AT MOST 1048576: true; the input reads as it did. -/
def chunkCapsUptoRow : OpenClaim := { program := "ytiblhebenhiijaa", sum := "8f3a9b071916e048d10e151cbce820847dc3bd3a80bc38fbfd76002c0d4918ab", func := "dipper/dipperlaw16.ChunkCaps", spec := "chunkCaps", apart := false, narrowed := true }
def ChunkCapsUptoSaid : Prop := chunkCapsUptoRow.holds Try.pinned (OpenSpec.upto chunkCapsSpec)

end Rows
end Go.Proofs.Ytiblhebenhiijaa
