/-
  What becomes of the world where blocks of known numbers may turn. No program is named here.
-/
import Derived.Test.YtppiocopokbdlaaDoorHeld
import Derived.Maps.OwnSet
namespace Go.Proofs.YtppiocopokbdlaaDoor
open Go.RowKit

/-- Of what was there nothing turns but blocks of S. -/
structure G (S : Nat → Prop) (w w' : World) : Prop where
  os : w'.os = w.os
  tape : w'.tape = w.tape
  output : w'.output = w.output
  size : w.heap.size ≤ w'.heap.size
  block : ∀ i, i < w.heap.size → ¬ S i → w'.heap[i]? = w.heap[i]?
theorem G.refl (S : Nat → Prop) (w : World) : G S w w := ⟨rfl, rfl, rfl, Nat.le_refl _, fun _ _ _ => rfl⟩
theorem G.trans {S : Nat → Prop} {a b c : World} (h : G S a b) (k : G S b c) : G S a c :=
  ⟨k.os.trans h.os, k.tape.trans h.tape, k.output.trans h.output, Nat.le_trans h.size k.size, fun i hi hs => (k.block i (Nat.lt_of_lt_of_le hi h.size) hs).trans (h.block i hi hs)⟩
theorem B.g {w w' : World} (h : B w w') (S : Nat → Prop) : G S w w' := ⟨h.below.os, h.below.tape, h.below.output, h.below.size, fun i hi _ => h.below.block i hi⟩
theorem G.below {S : Nat → Prop} {w w' : World} (h : G S w w') {BB : Nat} (hS : ∀ i, S i → BB ≤ i) (hB : BB ≤ w.heap.size) : Below BB w w' :=
  ⟨h.os, h.tape, h.output, h.size, fun k hk => h.block k (by omega) (fun hs => by have := hS k hs; omega)⟩
theorem G.b {S : Nat → Prop} {W w w' : World} (h : G S w w') (hb : B W w) (hS : ∀ i, S i → W.heap.size ≤ i) : B W w' := ⟨hb.below.trans (h.below hS hb.below.size)⟩
theorem G.mono {S S' : Nat → Prop} {w w' : World} (h : G S w w') (hS : ∀ i, i < w.heap.size → S i → S' i) : G S' w w' :=
  ⟨h.os, h.tape, h.output, h.size, fun i hi hs => h.block i hi (fun h1 => hs (hS i hi h1))⟩
theorem G.drew {S : Nat → Prop} {a w : World} (h : G S a w) : G S a w.drew := ⟨h.os, h.tape, h.output, h.size, h.block⟩
theorem G.alloc {S : Nat → Prop} {a w : World} (h : G S a w) (o : Obj) : G S a (w.alloc o) :=
  h.trans ⟨rfl, rfl, rfl, by simp, fun i hi _ => Below.heap_alloc _ _ _ hi⟩
theorem G.setCell {S : Nat → Prop} {a w : World} (h : G S a w) {p : Addr} (hp : S p.block ∨ a.heap.size ≤ p.block) (v : Value) : G S a (w.setCell p v) :=
  ⟨h.os, h.tape, h.output, by simpa [World.setCell] using h.size, fun i hi hs => by
    rw [Below.heap_setCell w p v i (fun e => by rcases hp with hp | hp; exact hs (e ▸ hp); omega)]
    exact h.block i hi hs⟩
theorem G.grown {S : Nat → Prop} {a w w' : World} {row : Option Nat} (h : G S a w) (g : w.grownBy w' row) (hr : ∀ k, row = some k → S k ∨ a.heap.size ≤ k) : G S a w' :=
  ⟨g.os.trans h.os, g.tape.trans h.tape, g.output.trans h.output, Nat.le_trans h.size g.size, fun i hi hs => by
    rw [g.block i (Nat.lt_of_lt_of_le hi h.size) (fun e => by rcases hr i e.symm with h1 | h1; exact hs h1; omega)]
    exact h.block i hi hs⟩
theorem G.then_ {S S' : Nat → Prop} {a b c : World} (h : G S a b) (k : G S' b c) (hS : ∀ i, S' i → S i ∨ a.heap.size ≤ i) : G S a c :=
  ⟨k.os.trans h.os, k.tape.trans h.tape, k.output.trans h.output, Nat.le_trans h.size k.size, fun i hi hs => (k.block i (Nat.lt_of_lt_of_le hi h.size) (fun h1 => by rcases hS i h1 with h2 | h2; exact hs h2; omega)).trans (h.block i hi hs)⟩
theorem G.keep {S : Nat → Prop} {w w' : World} (h : G S w w') {p : Addr} {v : Value} (hp : ¬ S p.block) (hc : w.cell? p = some v) : w'.cell? p = some v :=
  (World.cell?_of_block (w := w) (h.block p.block (World.block_lt_of_cell? w p hc) hp)).trans hc
theorem G.unfrozen {S : Nat → Prop} {w w' : World} (h : G S w w') {p : Addr} {v : Value} (hp : ¬ S p.block) (hc : w.cell? p = some v) (hf : w.frozen? p = false) : w'.frozen? p = false :=
  (World.frozen?_of_block (w := w) (h.block p.block (World.block_lt_of_cell? w p hc) hp)).trans hf
theorem G.obj {S : Nat → Prop} {w w' : World} (h : G S w w') {b : Nat} {o : Obj} (hb : ¬ S b) (ho : w.heap[b]? = some o) : w'.heap[b]? = some o :=
  (h.block b (Array.getElem?_eq_some_iff.1 ho).1 hb).trans ho
theorem G.held {S : Nat → Prop} {T : World → Prop} {lo hi : Nat} {w w' : World} (h : G S w w') (k : Held T lo hi w) (hS : ∀ i, lo ≤ i → i < hi → ¬ S i) : Held T lo hi w' :=
  k.on h.size fun i h1 h2 => h.block i (Nat.lt_of_lt_of_le h2 k.le) (hS i h1 h2)
theorem G.tabN {S : Nat → Prop} {T : World → Value → List (Int × Int) → Prop} {lo hi : Nat} {w w' : World} {p : Value} {L : List (Int × Int)} (h : G S w w') (k : TabN T lo hi w p L) (hS : ∀ i, lo ≤ i → i < hi → ¬ S i) : TabN T lo hi w' p L :=
  k.on h.size fun i h1 h2 => h.block i (Nat.lt_of_lt_of_le h2 k.held.le) (hS i h1 h2)

/-! ### blocks, whole -/
theorem obj_lt {w : World} {b : Nat} {o : Obj} (h : w.heap[b]? = some o) : b < w.heap.size := (Array.getElem?_eq_some_iff.1 h).1
theorem obj_cell {w : World} {b : Nat} {cs : Array Value} {t : TypeId} {fz : Nat × Nat} (h : w.heap[b]? = some (.cells cs t fz)) (k : Nat) : w.cell? ⟨b, k, none⟩ = cs[k]? := by
  simp [World.cell?, h]
theorem obj_free {w : World} {b : Nat} {cs : Array Value} {t : TypeId} (h : w.heap[b]? = some (.cells cs t (0, 0))) (k : Nat) : w.frozen? ⟨b, k, none⟩ = false := by
  simp [World.frozen?, h]
theorem obj_map {w : World} {b : Nat} {es : Array MapEntry} {clock : Nat} (h : w.heap[b]? = some (.map es clock)) (k : Nat) : w.cell? ⟨b, k, none⟩ = none := by
  simp [World.cell?, h]
theorem obj_set {w : World} {b : Nat} {cs : Array Value} {t : TypeId} {fz : Nat × Nat} (h : w.heap[b]? = some (.cells cs t fz)) (k : Nat) (v : Value) : (w.setCell ⟨b, k, none⟩ v).heap[b]? = some (.cells (cs.setIfInBounds k v) t fz) := by
  simp [World.setCell, Array.getElem?_modify, h]
theorem obj_other {w : World} {b : Nat} {o : Obj} (h : w.heap[b]? = some o) {p : Addr} (hp : b ≠ p.block) (v : Value) : (w.setCell p v).heap[b]? = some o :=
  (Below.heap_setCell w p v b hp).trans h
theorem obj_new (w : World) (o : Obj) : (w.alloc o).heap[w.heap.size]? = some o := by
  show (w.heap.push o)[w.heap.size]? = some o
  simp
theorem obj_past {w : World} {b : Nat} {o : Obj} (h : w.heap[b]? = some o) (o' : Obj) : (w.alloc o').heap[b]? = some o :=
  (Below.heap_alloc w o' b (obj_lt h)).trans h

/-- Sections lie in no block of S, if no cell of these is a bool. -/
theorem isSecs_keepG {S : Nat → Prop} {w w' : World} {v : Value} {l : List Sec} (h : IsSecs w v l) (hS : ∀ i, S i → ∀ k r, w.cell? ⟨i, k, none⟩ ≠ some (.bool r)) (q : G S w w') : IsSecs w' v l := by
  rcases h with ⟨rfl, rfl⟩ | ⟨a, cap, rfl, h2, h3, h4⟩
  · exact .inl ⟨rfl, rfl⟩
  · refine .inr ⟨a, cap, rfl, h2, h3, fun i s hs => ⟨(h4 i s hs).1, ?_⟩⟩
    obtain ⟨f0, f1, f2, f3, f4, f5⟩ := (h4 i s hs).2
    have hsp : (a.add (i * 6)).spot = none := by
      cases hsp : (a.add (i * 6)).spot with
      | none => rfl
      | some x =>
        unfold World.cell? at f0
        split at f0
        · simp [hsp] at f0
        · cases f0
    have hb : ¬ S (a.add (i * 6)).block := fun hs' => by
      refine hS _ hs' (a.add (i * 6)).off s.r ?_
      rw [← f0]
      congr 1
      rw [← hsp]
    exact ⟨q.keep hb f0, q.keep hb f1, q.keep hb f2, q.keep hb f3, q.keep hb f4, q.keep hb f5⟩
end Go.Proofs.YtppiocopokbdlaaDoor
