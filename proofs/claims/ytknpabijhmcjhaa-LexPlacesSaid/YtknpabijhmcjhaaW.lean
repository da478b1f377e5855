/-
  What becomes of the world in a call that turns nothing that was there: new blocks, draws.
-/
import Derived.WalkKit
import Derived.RowKit3
import Derived.Deep.Draws
import Derived.Lib.Hide
import Derived.Deep.AppendLies
namespace Go.Proofs.Ytknpabijhmcjhaa
open Go.RowKit

/-- The world behind is the one before, but for draws. -/
def Dr (w w' : World) : Prop := ∃ n, w' = w.drewN n
theorem Dr.refl (w : World) : Dr w w := ⟨0, rfl⟩
theorem Dr.trans {a b c : World} (h : Dr a b) (k : Dr b c) : Dr a c := by
  obtain ⟨n, rfl⟩ := h
  obtain ⟨m, rfl⟩ := k
  exact ⟨n + m, World.drewN_drewN _ _ _⟩

/-- New blocks and draws: of what was there nothing turns, and no mark. -/
structure Q (w w' : World) : Prop where
  below : Below w.heap.size w w'
  marks : ∀ a, w'.frozen? a = w.frozen? a

theorem Q.refl (w : World) : Q w w := ⟨Below.refl _ _, fun _ => rfl⟩
theorem Q.trans {a b c : World} (h : Q a b) (k : Q b c) : Q a c :=
  ⟨h.below.trans (k.below.mono h.below.size), fun x => (k.marks x).trans (h.marks x)⟩
theorem Q.drew {a w : World} (h : Q a w) : Q a w.drew := ⟨h.below.drew, h.marks⟩
theorem Q.drewN {a w : World} (h : Q a w) (n : Nat) : Q a (w.drewN n) := ⟨⟨h.below.os, h.below.tape, h.below.output, h.below.size, h.below.block⟩, h.marks⟩
theorem Q.dr {a b c : World} (h : Q a b) (k : Dr b c) : Q a c := by obtain ⟨n, rfl⟩ := k; exact h.drewN n
theorem Dr.q {a b : World} (k : Dr a b) : Q a b := (Q.refl a).dr k
theorem Q.grown {a w : World} (h : Q a w) : Grown a w := ⟨h.below.frame _, h.marks, h.below.size⟩
theorem Q.alloc {a w : World} (h : Q a w) (c : Array Value) (t : TypeId) : Q a (w.alloc (.cells c t)) :=
  ⟨h.below.alloc h.below.size _, fun x => ((Grown.refl w).alloc c t).2.1 x |>.trans (h.marks x)⟩
theorem Q.setCell {a w : World} (h : Q a w) {p : Addr} (hp : a.heap.size ≤ p.block) (v : Value) : Q a (w.setCell p v) :=
  ⟨h.below.setCell hp v, fun x => (World.frozen?_setCell _ _ _ _).trans (h.marks x)⟩
/-- What a cell holds stays. -/
theorem Q.keep {w w' : World} (h : Q w w') {p : Addr} {v : Value} (hc : w.cell? p = some v) : w'.cell? p = some v := by
  rw [h.below.cell (World.block_lt_of_cell? w p hc)]; exact hc
/-- Of what was there nothing turns. (Weaker than Q: it serves behind an append.) -/
structure B (w w' : World) : Prop where
  below : Below w.heap.size w w'
theorem Q.b {w w' : World} (h : Q w w') : B w w' := ⟨h.below⟩
theorem B.refl (w : World) : B w w := ⟨Below.refl _ _⟩
theorem B.trans {a b c : World} (h : B a b) (k : B b c) : B a c := ⟨h.below.trans (k.below.mono h.below.size)⟩
theorem B.drew {a w : World} (h : B a w) : B a w.drew := ⟨h.below.drew⟩
theorem B.drewN {a w : World} (h : B a w) (n : Nat) : B a (w.drewN n) := ⟨⟨h.below.os, h.below.tape, h.below.output, h.below.size, h.below.block⟩⟩
theorem B.alloc {a w : World} (h : B a w) (c : Array Value) (t : TypeId) : B a (w.alloc (.cells c t)) := ⟨h.below.alloc h.below.size _⟩
theorem B.setCell {a w : World} (h : B a w) {p : Addr} (hp : a.heap.size ≤ p.block) (v : Value) : B a (w.setCell p v) := ⟨h.below.setCell hp v⟩
theorem B.keep {w w' : World} (h : B w w') {p : Addr} {v : Value} (hc : w.cell? p = some v) : w'.cell? p = some v := by
  rw [h.below.cell (World.block_lt_of_cell? w p hc)]; exact hc
theorem B.unfrozen {w w' : World} (h : B w w') {p : Addr} {v : Value} (hc : w.cell? p = some v) (hf : w.frozen? p = false) : w'.frozen? p = false := by
  rw [h.below.frozen (World.block_lt_of_cell? w p hc)]; exact hf
theorem B.grownBy {a w w' : World} {row : Option Nat} (h : B a w) (g : w.grownBy w' row) (hr : ∀ k, row = some k → a.heap.size ≤ k) : B a w' :=
  ⟨⟨g.os.trans h.below.os, g.tape.trans h.below.tape, g.output.trans h.below.output, Nat.le_trans h.below.size g.size, fun k hk => by
    rw [g.block k (Nat.lt_of_lt_of_le hk h.below.size) (fun e => by have := hr k e.symm; omega)]
    exact h.below.block k hk⟩⟩
end Go.Proofs.Ytknpabijhmcjhaa
