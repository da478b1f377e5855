/-
  What lies in blocks that are known: it stays while these do. No program is named here.
-/
import Derived.Test.YtkiepmfknbbeaaaW
namespace Go.Proofs.Ytkiepmfknbbeaaa
open Go.RowKit

/-- T holds of a world, and of each that has the same blocks from lo up to hi. -/
structure Held (T : World → Prop) (lo hi : Nat) (w : World) : Prop where
  now : T w
  le : hi ≤ w.heap.size
  any : ∀ w', (∀ i, lo ≤ i → i < hi → w'.heap[i]? = w.heap[i]?) → T w'
theorem Held.on {T : World → Prop} {lo hi : Nat} {w w' : World} (h : Held T lo hi w) (hs : w.heap.size ≤ w'.heap.size) (hb : ∀ i, lo ≤ i → i < hi → w'.heap[i]? = w.heap[i]?) : Held T lo hi w' :=
  ⟨h.any w' hb, Nat.le_trans h.le hs, fun w2 h2 => h.any w2 fun i h3 h4 => (h2 i h3 h4).trans (hb i h3 h4)⟩
theorem Held.keepB {T : World → Prop} {lo hi : Nat} {w w' : World} (h : Held T lo hi w) (q : B w w') : Held T lo hi w' :=
  h.on q.below.size fun i _ h2 => q.below.block i (Nat.lt_of_lt_of_le h2 h.le)
theorem Held.wide {T : World → Prop} {lo hi lo' hi' : Nat} {w : World} (h : Held T lo hi w) (h1 : lo' ≤ lo) (h2 : hi ≤ hi') (h3 : hi' ≤ w.heap.size) : Held T lo' hi' w :=
  ⟨h.now, h3, fun w' hb => h.any w' fun i h4 h5 => hb i (by omega) (by omega)⟩
end Go.Proofs.Ytkiepmfknbbeaaa
