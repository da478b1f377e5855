/-
 Contracts and what they rest on.
-/
import Derived.Lib.ItoaMem
import Derived.Lib.Strings
import Derived.WalkKit
import Derived.Deep.RegionHeld3
import Derived.KernelRfl
import Derived.Maps.OwnSet
import Derived.RowKit3
import Derived.OwnWalk
import Derived.Laws.OwnMore
import Derived.Deep.AppendLies
import Derived.Test.YthlileddhgglnaaGreatDoorY1
namespace Go.Proofs.YthlileddhgglnaaGreatDoor
open Go.RowKit
def lowCells (M : List (Int × Int)) : List Value := (List.range (M.length + 1)).map fun k => Value.int .i64 (lowT M k)
def highCells (M : List (Int × Int)) : List Value := (List.range (M.length + 1)).map fun k => Value.int .i64 (highT M k)
theorem lowCells_len (M : List (Int × Int)) : (lowCells M).length = M.length + 1 := by simp [lowCells]
theorem highCells_len (M : List (Int × Int)) : (highCells M).length = M.length + 1 := by simp [highCells]
theorem lowCells_get (M : List (Int × Int)) (k : Nat) (h : k ≤ M.length) : (lowCells M)[k]? = some (.int .i64 (lowT M k)) := by
 unfold lowCells
 rw [List.getElem?_map, List.getElem?_range (by omega)]
 rfl
theorem highCells_get (M : List (Int × Int)) (k : Nat) (h : k ≤ M.length) : (highCells M)[k]? = some (.int .i64 (highT M k)) := by
 unfold highCells
 rw [List.getElem?_map, List.getElem?_range (by omega)]
 rfl
theorem lowT_prefix (M : List (Int × Int)) (x : Int × Int) (k : Nat) (h : k ≤ M.length) : lowT (M ++ [x]) k = lowT M k := lowT_left M [x] k h
theorem highT_prefix (M : List (Int × Int)) (x : Int × Int) (k : Nat) (h : k ≤ M.length) : highT (M ++ [x]) k = highT M k := by
 unfold highT
 rw [List.take_append_of_le_length h]
theorem lowCells_snoc (M : List (Int × Int)) (x : Int × Int) : lowCells (M ++ [x]) = lowCells M ++ [.int .i64 (lowT M M.length + x.1)] := by
 have e1 : lowT (M ++ [x]) (M.length + 1) = lowT M M.length + x.1 := by
  rw [lowT_succ _ _ x (by simp), lowT_prefix _ _ _ (Nat.le_refl _)]
 unfold lowCells
 rw [List.length_append, List.length_singleton, List.range_succ, List.map_append, List.map_singleton, e1]
 congr 1
 exact List.map_congr_left fun k hk => by rw [lowT_prefix _ _ _ (by have := List.mem_range.1 hk; omega)]
theorem highCells_snoc (M : List (Int × Int)) (x : Int × Int) : highCells (M ++ [x]) = highCells M ++ [.int .i64 (highT M M.length + x.2)] := by
 have e1 : highT (M ++ [x]) (M.length + 1) = highT M M.length + x.2 := by
  rw [highT_succ _ _ x (by simp), highT_prefix _ _ _ (Nat.le_refl _)]
 unfold highCells
 rw [List.length_append, List.length_singleton, List.range_succ, List.map_append, List.map_singleton, e1]
 congr 1
 exact List.map_congr_left fun k hk => by rw [highT_prefix _ _ _ (by have := List.mem_range.1 hk; omega)]
theorem own_block {w w' : World} {B e sz g n c : Nat} {xs : List Value} (h : w.ownsRow B e sz (.slice (some ⟨g, 0, none⟩) n c) n xs) (hb : w'.heap[g]? = w.heap[g]?) : w'.ownsRow B e sz (.slice (some ⟨g, 0, none⟩) n c) n xs := by
 obtain ⟨h1, h0 | ⟨g', cap, cur, hv, h2, h3, r⟩⟩ := h
 ·exact ⟨h1, .inl h0⟩
 ·simp only [Value.slice.injEq, Option.some.injEq, Addr.mk.injEq] at hv
  obtain ⟨⟨rfl, _⟩, _, rfl⟩ := hv
  exact ⟨h1, .inr ⟨g, c, cur, rfl, h2, hb.trans h3, r⟩⟩
structure Half (w : World) (BB bt off e g c : Nat) (xs : List Value) : Prop where
 cell : w.cell? ⟨bt, off, none⟩ = some (.slice (some ⟨g, 0, none⟩) xs.length c)
 fz : w.frozen? ⟨bt, off, none⟩ = false
 own : w.ownsRow BB e 1 (.slice (some ⟨g, 0, none⟩) xs.length c) xs.length xs
 ne : g ≠ bt
 lo : BB ≤ bt
theorem Half.glt {w : World} {BB bt off e g c : Nat} {xs : List Value} (h : Half w BB bt off e g c xs) : BB ≤ g ∧ g < w.heap.size := h.own.lt g rfl
theorem Half.blt {w : World} {BB bt off e g c : Nat} {xs : List Value} (h : Half w BB bt off e g c xs) : bt < w.heap.size := World.block_lt_of_cell? w _ h.cell
theorem Half.blocks {w w' : World} {BB bt off e g c : Nat} {xs : List Value} (h : Half w BB bt off e g c xs) (h1 : w'.heap[bt]? = w.heap[bt]?) (h2 : w'.heap[g]? = w.heap[g]?) : Half w' BB bt off e g c xs :=
 ⟨(World.cell?_of_block (a := ⟨bt, off, none⟩) h1).trans h.cell, (World.frozen?_of_block (a := ⟨bt, off, none⟩) h1).trans h.fz, own_block h.own h2, h.ne, h.lo⟩
theorem Half.keepB {w w' : World} {BB bt off e g c : Nat} {xs : List Value} (h : Half w BB bt off e g c xs) (q : B w w') : Half w' BB bt off e g c xs :=
 h.blocks (q.below.block _ h.blt) (q.below.block _ h.glt.2)
theorem Half.grown {w w' : World} {BB bt off e g c g2 : Nat} {xs : List Value} (h : Half w BB bt off e g c xs) (q : w.grownBy w' (some g2)) (hg : g ≠ g2) (hb : bt ≠ g2) : Half w' BB bt off e g c xs :=
 h.blocks (q.block _ h.blt (by simpa using hb)) (q.block _ h.glt.2 (by simpa using hg))
theorem Half.other {w : World} {BB bt off e g c : Nat} {xs : List Value} (h : Half w BB bt off e g c xs) (off2 : Nat) (hne : off2 ≠ off) (v : Value) : Half (w.setCell ⟨bt, off2, none⟩ v) BB bt off e g c xs :=
 ⟨(World.cell?_setCell_other w ⟨bt, off2, none⟩ ⟨bt, off, none⟩ v (fun e => hne (congrArg Addr.off e))).trans h.cell, (World.frozen?_setCell w _ _ v).trans h.fz, own_block h.own (Below.heap_setCell w ⟨bt, off2, none⟩ v g h.ne), h.ne, h.lo⟩
theorem Half.put {w : World} {BB bt off e g c : Nat} {xs : List Value} (h : w.ownsRow BB e 1 (.slice (some ⟨g, 0, none⟩) xs.length c) xs.length xs) {u : Value} (hc : w.cell? ⟨bt, off, none⟩ = some u) (hf : w.frozen? ⟨bt, off, none⟩ = false) (hne : g ≠ bt) (hlo : BB ≤ bt) :
  Half (w.setCell ⟨bt, off, none⟩ (.slice (some ⟨g, 0, none⟩) xs.length c)) BB bt off e g c xs :=
 ⟨World.cell?_setCell_same w ⟨bt, off, none⟩ _ hc, (World.frozen?_setCell w _ _ _).trans hf, own_block h (Below.heap_setCell w ⟨bt, off, none⟩ _ g hne), hne, hlo⟩
theorem alloc_size (w : World) (o : Obj) : (w.alloc o).heap.size = w.heap.size + 1 := by
 show (w.heap.push o).size = _
 simp
theorem table_start (W : World) (BB e t : Nat) (hB : BB ≤ W.heap.size) :
  Half (((W.alloc (.cells #[.int .i64 0] e)).alloc (.cells #[.int .i64 0] e)).alloc (.cells #[.slice (some ⟨W.heap.size, 0, none⟩) 1 1, .slice (some ⟨W.heap.size + 1, 0, none⟩) 1 1] t)) BB (W.heap.size + 1 + 1) 0 e W.heap.size 1 (lowCells []) ∧
  Half (((W.alloc (.cells #[.int .i64 0] e)).alloc (.cells #[.int .i64 0] e)).alloc (.cells #[.slice (some ⟨W.heap.size, 0, none⟩) 1 1, .slice (some ⟨W.heap.size + 1, 0, none⟩) 1 1] t)) BB (W.heap.size + 1 + 1) 1 e (W.heap.size + 1) 1 (highCells []) := by
 have o1 := (World.ownsRow_lit W #[.int .i64 0] 1 (base := BB) (e := e) (size := 1) hB (by decide) rfl).alloc (.cells #[.int .i64 0] e)
 have o2 := World.ownsRow_lit (W.alloc (.cells #[.int .i64 0] e)) #[.int .i64 0] 1 (base := BB) (e := e) (size := 1) (by rw [alloc_size]; omega) (by decide) rfl
 rw [alloc_size] at o2
 have hs : ((W.alloc (.cells #[.int .i64 0] e)).alloc (.cells #[.int .i64 0] e)).heap.size = W.heap.size + 1 + 1 := by rw [alloc_size, alloc_size]
 generalize (W.alloc (.cells #[.int .i64 0] e)).alloc (.cells #[.int .i64 0] e) = W3 at *
 have c := fun (k : Nat) => World.cell?_alloc_new W3 #[.slice (some ⟨W.heap.size, 0, none⟩) 1 1, .slice (some ⟨W.heap.size + 1, 0, none⟩) 1 1] t k
 have f := fun (k : Nat) => World.frozen?_alloc_new W3 #[.slice (some ⟨W.heap.size, 0, none⟩) 1 1, .slice (some ⟨W.heap.size + 1, 0, none⟩) 1 1] t k
 rw [hs] at c f
 exact ⟨⟨c 0, f 0, o1.alloc _, by omega, by omega⟩, ⟨c 1, f 1, o2.alloc _, by omega, by omega⟩⟩
def RTab (w : World) (p : Value) (L : List (Int × Int)) : Prop :=
 ∃ b aL cL aH cH, p = .pointer (some ⟨b, 0, none⟩) ∧ w.cell? ⟨b, 0, none⟩ = some (.slice (some aL) (L.length + 1) cL) ∧ w.cell? ⟨b, 1, none⟩ = some (.slice (some aH) (L.length + 1) cH) ∧
  (∀ k, k ≤ L.length → w.cell? (aL.add k) = some (.int .i64 (lowT L k))) ∧ (∀ k, k ≤ L.length → w.cell? (aH.add k) = some (.int .i64 (highT L k)))
theorem RTab.keepB {w w' : World} {p : Value} {L : List (Int × Int)} (h : RTab w p L) (q : B w w') : RTab w' p L := by
 obtain ⟨b, aL, cL, aH, cH, h0, h1, h2, h3, h4⟩ := h
 exact ⟨b, aL, cL, aH, cH, h0, q.keep h1, q.keep h2, fun k hk => q.keep (h3 k hk), fun k hk => q.keep (h4 k hk)⟩
theorem rtab_of {w : World} {BB bt e g1 c1 g2 c2 : Nat} {L : List (Int × Int)} (h1 : Half w BB bt 0 e g1 c1 (lowCells L)) (h2 : Half w BB bt 1 e g2 c2 (highCells L)) : RTab w (.pointer (some ⟨bt, 0, none⟩)) L := by
 refine ⟨bt, ⟨g1, 0, none⟩, c1, ⟨g2, 0, none⟩, c2, rfl, ?_, ?_, ?_, ?_⟩
 ·have := h1.cell; rwa [lowCells_len] at this
 ·have := h2.cell; rwa [highCells_len] at this
 ·intro k hk
  exact h1.own.cells rfl k _ (lowCells_get L k hk)
 ·intro k hk
  exact h2.own.cells rfl k _ (highCells_get L k hk)
theorem rtab_held {w : World} {BB bt e g1 c1 g2 c2 : Nat} {L : List (Int × Int)} (h1 : Half w BB bt 0 e g1 c1 (lowCells L)) (h2 : Half w BB bt 1 e g2 c2 (highCells L)) : Held (fun w => RTab w (.pointer (some ⟨bt, 0, none⟩)) L) BB w.heap.size w := by
 have b1 := h1.glt
 have b2 := h2.glt
 have b3 := h1.blt
 have b4 := h1.lo
 have main : ∀ w' : World, (∀ i, BB ≤ i → i < w.heap.size → w'.heap[i]? = w.heap[i]?) → RTab w' (.pointer (some ⟨bt, 0, none⟩)) L := fun w' hb =>
  rtab_of (h1.blocks (hb bt b4 b3) (hb g1 b1.1 b1.2)) (h2.blocks (hb bt b4 b3) (hb g2 b2.1 b2.2))
 exact ⟨main w fun _ _ _ => rfl, Nat.le_refl _, main⟩
def nearI (n : Nat) (i : Int) : Nat := (min (max i 0) (n : Int)).toNat
theorem nearI_le (n : Nat) (i : Int) : nearI n i ≤ n := by unfold nearI; omega
theorem nearI_eq (n : Nat) (i : Int) : min (max i 0) (n : Int) = (nearI n i : Int) := by unfold nearI; omega
end Go.Proofs.YthlileddhgglnaaGreatDoor
namespace Go.Proofs.YthlileddhgglnaaGreatDoor
open Go.RowKit
def lowL (M : List (Int × Int)) : List Value := (List.range M.length).map fun k => Value.int .i64 (lowT M (k + 1))
def highL (M : List (Int × Int)) : List Value := (List.range M.length).map fun k => Value.int .i64 (highT M (k + 1))
theorem lowL_len (M : List (Int × Int)) : (lowL M).length = M.length := by simp [lowL]
theorem highL_len (M : List (Int × Int)) : (highL M).length = M.length := by simp [highL]
theorem lowL_get (M : List (Int × Int)) (k : Nat) (h : k < M.length) : (lowL M)[k]? = some (.int .i64 (lowT M (k + 1))) := by
 unfold lowL
 rw [List.getElem?_map, List.getElem?_range h]
 rfl
theorem highL_get (M : List (Int × Int)) (k : Nat) (h : k < M.length) : (highL M)[k]? = some (.int .i64 (highT M (k + 1))) := by
 unfold highL
 rw [List.getElem?_map, List.getElem?_range h]
 rfl
theorem lowT_snoc (M : List (Int × Int)) (x : Int × Int) : lowT (M ++ [x]) (M.length + 1) = lowT M M.length + x.1 := by
 rw [lowT_succ _ _ x (by simp), lowT_prefix _ _ _ (Nat.le_refl _)]
theorem highT_snoc (M : List (Int × Int)) (x : Int × Int) : highT (M ++ [x]) (M.length + 1) = highT M M.length + x.2 := by
 rw [highT_succ _ _ x (by simp), highT_prefix _ _ _ (Nat.le_refl _)]
theorem lowL_snoc (M : List (Int × Int)) (x : Int × Int) : lowL (M ++ [x]) = lowL M ++ [.int .i64 (lowT M M.length + x.1)] := by
 unfold lowL
 rw [List.length_append, List.length_singleton, List.range_succ, List.map_append, List.map_singleton, lowT_snoc]
 congr 1
 exact List.map_congr_left fun k hk => by rw [lowT_prefix _ _ _ (by have := List.mem_range.1 hk; omega)]
theorem highL_snoc (M : List (Int × Int)) (x : Int × Int) : highL (M ++ [x]) = highL M ++ [.int .i64 (highT M M.length + x.2)] := by
 unfold highL
 rw [List.length_append, List.length_singleton, List.range_succ, List.map_append, List.map_singleton, highT_snoc]
 congr 1
 exact List.map_congr_left fun k hk => by rw [highT_prefix _ _ _ (by have := List.mem_range.1 hk; omega)]
theorem own_keep {w w' : World} {B e sz n : Nat} {v : Value} {xs : List Value} (h : w.ownsRow B e sz v n xs) (hb : ∀ g, v.ownBlock = some g → w'.heap[g]? = w.heap[g]?) : w'.ownsRow B e sz v n xs := by
 obtain ⟨h1, h0 | ⟨g, cap, cur, rfl, h2, h3, r⟩⟩ := h
 ·exact ⟨h1, .inl h0⟩
 ·exact ⟨h1, .inr ⟨g, cap, cur, rfl, h2, (hb g rfl).trans h3, r⟩⟩
theorem cell_set {w : World} {b : Nat} {cs : Array Value} {t : TypeId} {fz : Nat × Nat} (h : w.heap[b]? = some (.cells cs t fz)) (k : Nat) (v : Value) : (w.setCell ⟨b, k, none⟩ v).heap[b]? = some (.cells (cs.setIfInBounds k v) t fz) := by
 simp [World.setCell, Array.getElem?_modify, h]
structure Fld (w : World) (BB bt off e : Nat) (v : Value) (xs : List Value) : Prop where
 cell : w.cell? ⟨bt, off, none⟩ = some v
 fz : w.frozen? ⟨bt, off, none⟩ = false
 own : w.ownsRow BB e 1 v xs.length xs
 ne : v.ownBlock ≠ some bt
 lo : BB ≤ bt
 ob : ∃ cs t, w.heap[bt]? = some (.cells cs t (0, 0))
theorem Fld.blt {w : World} {BB bt off e : Nat} {v : Value} {xs : List Value} (h : Fld w BB bt off e v xs) : bt < w.heap.size := World.block_lt_of_cell? w _ h.cell
theorem Fld.blocks {w w' : World} {BB bt off e : Nat} {v : Value} {xs : List Value} (h : Fld w BB bt off e v xs) (h1 : w'.heap[bt]? = w.heap[bt]?) (h2 : ∀ g, v.ownBlock = some g → w'.heap[g]? = w.heap[g]?) : Fld w' BB bt off e v xs :=
 ⟨(World.cell?_of_block (a := ⟨bt, off, none⟩) h1).trans h.cell, (World.frozen?_of_block (a := ⟨bt, off, none⟩) h1).trans h.fz, own_keep h.own h2, h.ne, h.lo, by obtain ⟨cs, t, ho⟩ := h.ob; exact ⟨cs, t, h1.trans ho⟩⟩
theorem Fld.keepB {w w' : World} {BB bt off e : Nat} {v : Value} {xs : List Value} (h : Fld w BB bt off e v xs) (q : B w w') : Fld w' BB bt off e v xs :=
 h.blocks (q.below.block _ h.blt) (fun g hg => q.below.block _ (h.own.lt g hg).2)
theorem Fld.grown {w w' : World} {BB bt off e : Nat} {v : Value} {xs : List Value} {row : Option Nat} (h : Fld w BB bt off e v xs) (q : w.grownBy w' row) (hb : some bt ≠ row) (hg : ∀ g, v.ownBlock = some g → some g ≠ row) : Fld w' BB bt off e v xs :=
 h.blocks (q.block _ h.blt hb) (fun g hg' => q.block _ (h.own.lt g hg').2 (hg g hg'))
theorem Fld.other {w : World} {BB bt off e : Nat} {v : Value} {xs : List Value} (h : Fld w BB bt off e v xs) (off2 : Nat) (hne : off2 ≠ off) (u : Value) : Fld (w.setCell ⟨bt, off2, none⟩ u) BB bt off e v xs :=
 ⟨(World.cell?_setCell_other w ⟨bt, off2, none⟩ ⟨bt, off, none⟩ u (fun e => hne (congrArg Addr.off e))).trans h.cell, (World.frozen?_setCell w _ _ u).trans h.fz, own_keep h.own (fun g hg => Below.heap_setCell w ⟨bt, off2, none⟩ u g (fun e => h.ne (by rw [hg, e]))), h.ne, h.lo, by obtain ⟨cs, t, ho⟩ := h.ob; exact ⟨_, t, cell_set ho off2 u⟩⟩
theorem Fld.put {w : World} {BB bt off e n : Nat} {v : Value} {xs : List Value} (hl : xs.length = n) (h : w.ownsRow BB e 1 v n xs) {u : Value} (hc : w.cell? ⟨bt, off, none⟩ = some u) (hf : w.frozen? ⟨bt, off, none⟩ = false) (hne : v.ownBlock ≠ some bt) (hlo : BB ≤ bt) (ho : ∃ cs t, w.heap[bt]? = some (.cells cs t (0, 0))) :
  Fld (w.setCell ⟨bt, off, none⟩ v) BB bt off e v xs :=
 ⟨World.cell?_setCell_same w ⟨bt, off, none⟩ _ hc, (World.frozen?_setCell w _ _ _).trans hf, hl ▸ own_keep h (fun g hg => Below.heap_setCell w ⟨bt, off, none⟩ _ g (fun e => hne (by rw [hg, e]))), hne, hlo, by obtain ⟨cs, t, ho⟩ := ho; exact ⟨_, t, cell_set ho off v⟩⟩
structure Two (w : World) (BB bt e : Nat) (v u : Value) (xs ys : List Value) (xb : Nat) : Prop where
 l : Fld w BB bt 1 e v xs
 h : Fld w BB bt 2 e u ys
 ap : ∀ g, v.ownBlock = some g → u.ownBlock ≠ some g
 xv : v.ownBlock ≠ some xb
 xu : u.ownBlock ≠ some xb
 xt : xb ≠ bt
theorem Two.keepB {w w' : World} {BB bt e xb : Nat} {v u : Value} {xs ys : List Value} (h : Two w BB bt e v u xs ys xb) (q : B w w') : Two w' BB bt e v u xs ys xb :=
 ⟨h.l.keepB q, h.h.keepB q, h.ap, h.xv, h.xu, h.xt⟩
theorem two_first {W W1 wN : World} {BB bt e xb g1 : Nat} {v u : Value} {xs ys : List Value} (t : Two W BB bt e v u xs ys xb) (q : B W W1)
  (hg : W1.grownBy wN v.ownBlock) (hat : v.ownBlock = some g1 ∨ g1 = W1.heap.size) :
  wN.cell? ⟨bt, 1, none⟩ = some v ∧ wN.frozen? ⟨bt, 1, none⟩ = false ∧ g1 ≠ bt ∧ u.ownBlock ≠ some g1 ∧ Fld wN BB bt 2 e u ys ∧ BB ≤ wN.heap.size ∧ bt < wN.heap.size := by
 have t1 := t.keepB q
 have hb : some bt ≠ v.ownBlock := fun e => t.l.ne e.symm
 refine ⟨(World.cell?_of_block (a := ⟨bt, 1, none⟩) (hg.block bt t1.l.blt hb)).trans t1.l.cell, (World.frozen?_of_block (a := ⟨bt, 1, none⟩) (hg.block bt t1.l.blt hb)).trans t1.l.fz, ?_, ?_, ?_, ?_, ?_⟩
 ·rcases hat with e | e
  ·intro h; rw [h] at e; exact hb e.symm
  ·have := t1.l.blt; omega
 ·rcases hat with e | e
  ·exact t.ap _ e
  ·intro h
   have := (t1.h.own.lt _ h).2
   omega
 ·exact t1.h.grown hg hb (fun g hg' e => t.ap g e.symm hg')
 ·have := t1.l.blt; have := t.l.lo; have := hg.size; omega
 ·have := t1.l.blt; have := hg.size; omega
theorem two_mid {wN W2 wM : World} {BB bt e g2 : Nat} {v u : Value} {ys : List Value} (f1 : wN.cell? ⟨bt, 1, none⟩ = some v) (f2 : wN.frozen? ⟨bt, 1, none⟩ = false) (f5 : Fld wN BB bt 2 e u ys) (q : B wN W2)
  (hg : W2.grownBy wM u.ownBlock) (hat : u.ownBlock = some g2 ∨ g2 = W2.heap.size) :
  wM.heap[bt]? = wN.heap[bt]? ∧ wM.cell? ⟨bt, 1, none⟩ = some v ∧ wM.frozen? ⟨bt, 1, none⟩ = false ∧ wM.cell? ⟨bt, 2, none⟩ = some u ∧ wM.frozen? ⟨bt, 2, none⟩ = false ∧ g2 ≠ bt := by
 have F5 := f5.keepB q
 have e1 : wM.heap[bt]? = wN.heap[bt]? := (hg.block bt F5.blt (fun e => f5.ne e.symm)).trans (q.below.block bt f5.blt)
 refine ⟨e1, (World.cell?_of_block (a := ⟨bt, 1, none⟩) e1).trans f1, (World.frozen?_of_block (a := ⟨bt, 1, none⟩) e1).trans f2, (World.cell?_of_block (a := ⟨bt, 2, none⟩) e1).trans f5.cell, (World.frozen?_of_block (a := ⟨bt, 2, none⟩) e1).trans f5.fz, ?_⟩
 rcases hat with e | e
 ·intro h; rw [h] at e; exact f5.ne e
 ·have := F5.blt; omega
theorem two_store {wM : World} {bt : Nat} {u : Value} (x1 : wM.cell? ⟨bt, 2, none⟩ = some u) (x2 : wM.frozen? ⟨bt, 2, none⟩ = false) (z : Value) :
  (wM.setCell ⟨bt, 1, none⟩ z).cell? ⟨bt, 2, none⟩ = some u ∧ (wM.setCell ⟨bt, 1, none⟩ z).frozen? ⟨bt, 2, none⟩ = false :=
 ⟨(World.cell?_setCell_other wM ⟨bt, 1, none⟩ ⟨bt, 2, none⟩ z (fun e => absurd (congrArg Addr.off e) (by show ¬ (1 = 2); omega))).trans x1, (World.frozen?_setCell wM _ _ _).trans x2⟩
theorem two_grow {W W1 wN W2 wM : World} {BB bt e xb n g1 c1 g2 c2 : Nat} {v u z y hv : Value} {xs ys : List Value} (t : Two W BB bt e v u xs ys xb) (hx : xs.length = n) (hy : ys.length = n) (q : B W W1)
  (ho : wN.ownsRow BB e 1 (.slice (some ⟨g1, 0, none⟩) (n + 1) c1) (n + 1) (xs ++ [z])) (hg : W1.grownBy wN v.ownBlock) (hat : v.ownBlock = some g1 ∨ g1 = W1.heap.size) (hlt : g1 < wN.heap.size) (qN : B wN W2)
  (ho2 : wM.ownsRow BB e 1 (.slice (some ⟨g2, 0, none⟩) (n + 1) c2) (n + 1) (ys ++ [y])) (hg2 : W2.grownBy wM u.ownBlock) (hat2 : u.ownBlock = some g2 ∨ g2 = W2.heap.size) (hxb : xb < W.heap.size) (hc : W.cell? ⟨bt, 0, none⟩ = some hv) :
  Two ((wM.setCell ⟨bt, 1, none⟩ (.slice (some ⟨g1, 0, none⟩) (n + 1) c1)).setCell ⟨bt, 2, none⟩ (.slice (some ⟨g2, 0, none⟩) (n + 1) c2)) BB bt e (.slice (some ⟨g1, 0, none⟩) (n + 1) c1) (.slice (some ⟨g2, 0, none⟩) (n + 1) c2) (xs ++ [z]) (ys ++ [y]) xb ∧
  ((wM.setCell ⟨bt, 1, none⟩ (.slice (some ⟨g1, 0, none⟩) (n + 1) c1)).setCell ⟨bt, 2, none⟩ (.slice (some ⟨g2, 0, none⟩) (n + 1) c2)).heap[xb]? = W.heap[xb]? ∧
  ((wM.setCell ⟨bt, 1, none⟩ (.slice (some ⟨g1, 0, none⟩) (n + 1) c1)).setCell ⟨bt, 2, none⟩ (.slice (some ⟨g2, 0, none⟩) (n + 1) c2)).cell? ⟨bt, 0, none⟩ = some hv ∧
  (∀ w0, w0.heap.size = BB → B w0 W → B w0 ((wM.setCell ⟨bt, 1, none⟩ (.slice (some ⟨g1, 0, none⟩) (n + 1) c1)).setCell ⟨bt, 2, none⟩ (.slice (some ⟨g2, 0, none⟩) (n + 1) c2))) := by
 obtain ⟨f1, f2, f3, f4, f5, f6, f7⟩ := two_first t q hg hat
 obtain ⟨e1, y1, y2, x1, x2, nb2⟩ := two_mid f1 f2 f5 qN hg2 hat2
 have t1 := t.keepB q
 have bl1 := hg2.block g1 (by have := qN.below.size; omega) (fun e => f4 e.symm)
 have e2 : wM.heap[g1]? = wN.heap[g1]? := bl1.trans (qN.below.block g1 hlt)
 have o1 : wM.ownsRow BB e 1 (.slice (some ⟨g1, 0, none⟩) (n + 1) c1) (n + 1) (xs ++ [z]) := own_keep ho (fun g hg => by cases hg; exact e2)
 have n12 : g1 ≠ g2 := by
  rcases hat2 with e | e
  ·intro h; rw [h] at f4; exact f4 e
  ·have := qN.below.size; omega
 have s1 := q.below.size
 have s2 := hg.size
 have s3 := qN.below.size
 have s4 := hg2.size
 have nx1 : g1 ≠ xb := by
  rcases hat with e | e
  ·intro h; rw [h] at e; exact t.xv e
  ·omega
 have nx2 : g2 ≠ xb := by
  rcases hat2 with e | e
  ·intro h; rw [h] at e; exact t.xu e
  ·omega
 have st := two_store x1 x2 (.slice (some ⟨g1, 0, none⟩) (n + 1) c1)
 obtain ⟨cs0, t0, ob0⟩ := t1.l.ob
 have obM : wM.heap[bt]? = some (.cells cs0 t0 (0, 0)) := e1.trans ((hg.block bt t1.l.blt (fun e => t.l.ne e.symm)).trans ob0)
 have A := Fld.put (off := 1) (by simp [hx]) o1 y1 y2 (show (Value.slice (some ⟨g1, 0, none⟩) (n + 1) c1).ownBlock ≠ some bt from fun e => f3 (Option.some.inj e)) t.l.lo ⟨cs0, t0, obM⟩
 have o2' : (wM.setCell ⟨bt, 1, none⟩ (.slice (some ⟨g1, 0, none⟩) (n + 1) c1)).ownsRow BB e 1 (.slice (some ⟨g2, 0, none⟩) (n + 1) c2) (n + 1) (ys ++ [y]) := own_keep ho2 (fun g hg => by cases hg; exact Below.heap_setCell wM ⟨bt, 1, none⟩ _ g2 nb2)
 have H := Fld.put (off := 2) (by simp [hy]) o2' st.1 st.2 (show (Value.slice (some ⟨g2, 0, none⟩) (n + 1) c2).ownBlock ≠ some bt from fun e => nb2 (Option.some.inj e)) t.h.lo A.ob
 refine ⟨⟨A.other 2 (by omega) _, H, fun g hg => ?_, fun e => nx1 (Option.some.inj e), fun e => nx2 (Option.some.inj e), t.xt⟩, ?_, ?_, ?_⟩
 ·cases hg
  exact fun e => n12 (Option.some.inj e).symm
 ·rw [Below.heap_setCell _ ⟨bt, 2, none⟩ _ xb t.xt, Below.heap_setCell _ ⟨bt, 1, none⟩ _ xb t.xt, hg2.block xb (by omega) (fun e => t.xu e.symm), qN.below.block xb (by omega), hg.block xb (by omega) (fun e => t.xv e.symm), q.below.block xb hxb]
 ·rw [World.cell?_setCell_other _ ⟨bt, 2, none⟩ ⟨bt, 0, none⟩ _ (fun e => absurd (congrArg Addr.off e) (by show ¬ (2 = 0); omega)), World.cell?_setCell_other _ ⟨bt, 1, none⟩ ⟨bt, 0, none⟩ _ (fun e => absurd (congrArg Addr.off e) (by show ¬ (1 = 0); omega)),
   World.cell?_of_block (a := ⟨bt, 0, none⟩) e1, World.cell?_of_block (a := ⟨bt, 0, none⟩) (hg.block bt t1.l.blt (fun e => t.l.ne e.symm))]
  exact q.keep hc
 ·intro w0 h0 b0
  have b1 := (b0.trans q).grownBy hg (fun k hk => by rw [h0]; exact (t.l.own.lt k hk).1)
  have b2 := (b1.trans qN).grownBy hg2 (fun k hk => by rw [h0]; exact (t.h.own.lt k hk).1)
  exact (b2.setCell (p := ⟨bt, 1, none⟩) (by rw [h0]; exact t.l.lo) _).setCell (p := ⟨bt, 2, none⟩) (by rw [h0]; exact t.l.lo) _
theorem news_grown {w w' : World} {row : Option Nat} {H : Nat} {cs : List Value} (h : ∀ j u, cs[j]? = some u → w.cell? ((⟨H, 0, none⟩ : Addr).add j) = some u) (g : w.grownBy w' row) (hlt : H < w.heap.size) (hne : some H ≠ row) :
  ∀ j u, cs[j]? = some u → w'.cell? ((⟨H, 0, none⟩ : Addr).add j) = some u :=
 fun j u hj => by
 have e : (⟨H, 0, none⟩ : Addr).add j = ⟨H, j, none⟩ := add0 H j
 have h1 := h j u hj
 rw [e] at h1 ⊢
 exact (World.cell?_of_block (a := ⟨H, j, none⟩) (g.block H hlt hne)).trans h1
theorem two_start (W : World) (BB e t : Nat) (hv : Value) (hB : BB ≤ W.heap.size) (xb : Nat) (hx : W.heap.size ≠ xb) :
  Two (W.alloc (.cells #[hv, .slice none 0 0, .slice none 0 0] t)) BB W.heap.size e (.slice none 0 0) (.slice none 0 0) [] [] xb := by
 have c := fun (k : Nat) => World.cell?_alloc_new W #[hv, .slice none 0 0, .slice none 0 0] t k
 have f := fun (k : Nat) => World.frozen?_alloc_new W #[hv, .slice none 0 0, .slice none 0 0] t k
 have n : (Value.slice none 0 0).ownBlock = none := rfl
 have o : ∃ cs t', (W.alloc (.cells #[hv, .slice none 0 0, .slice none 0 0] t)).heap[W.heap.size]? = some (.cells cs t' (0, 0)) := ⟨#[hv, .slice none 0 0, .slice none 0 0], t, by show (W.heap.push _)[W.heap.size]? = _; simp⟩
 exact ⟨⟨c 1, f 1, World.ownsRow_nil _ _ _ _, by rw [n]; simp, hB, o⟩, ⟨c 2, f 2, World.ownsRow_nil _ _ _ _, by rw [n]; simp, hB, o⟩, (fun g h => by rw [n] at h; cases h), by rw [n]; simp, by rw [n]; simp, Ne.symm hx⟩
theorem Two.stay {w : World} {BB bt e xb : Nat} {v u : Value} {xs ys : List Value} (h : Two w BB bt e v u xs ys xb) (yb : Nat) (hy : w.heap.size ≤ yb) : Two w BB bt e v u xs ys yb :=
 ⟨h.l, h.h, h.ap, fun e => by have := (h.l.own.lt _ e).2; omega, fun e => by have := (h.h.own.lt _ e).2; omega, by have := h.l.blt; omega⟩
def CTab (w : World) (p : Value) (L : List (Int × Int)) : Prop :=
 ∃ b aL cL aH cH, 1 ≤ L.length ∧ p = .pointer (some ⟨b, 0, none⟩) ∧ w.cell? ⟨b, 0, none⟩ = some (.int .i64 (L.length * 100)) ∧ w.cell? ⟨b, 1, none⟩ = some (.slice (some aL) L.length cL) ∧ w.cell? ⟨b, 2, none⟩ = some (.slice (some aH) L.length cH) ∧
  (∀ k, k < L.length → w.cell? (aL.add k) = some (.int .i64 (lowT L (k + 1)))) ∧ (∀ k, k < L.length → w.cell? (aH.add k) = some (.int .i64 (highT L (k + 1))))
theorem CTab.keepB {w w' : World} {p : Value} {L : List (Int × Int)} (h : CTab w p L) (q : B w w') : CTab w' p L := by
 obtain ⟨b, aL, cL, aH, cH, hn, h0, hh, h1, h2, h3, h4⟩ := h
 exact ⟨b, aL, cL, aH, cH, hn, h0, q.keep hh, q.keep h1, q.keep h2, fun k hk => q.keep (h3 k hk), fun k hk => q.keep (h4 k hk)⟩
theorem own_some {w : World} {B e n : Nat} {v : Value} {xs : List Value} (h : w.ownsRow B e 1 v n xs) (hn : 1 ≤ n) : ∃ g c, v = .slice (some ⟨g, 0, none⟩) n c := by
 obtain ⟨h1, ⟨_, h0⟩ | ⟨g, cap, cur, rfl, _⟩⟩ := h
 ·omega
 ·exact ⟨g, cap, rfl⟩
theorem lowT_zero (L : List (Int × Int)) : lowT L 0 = 0 := by simp [lowT]
end Go.Proofs.YthlileddhgglnaaGreatDoor
namespace Go.Proofs.YthlileddhgglnaaGreatDoor
open Go.RowKit
structure TabN (T : World → Value → List (Int × Int) → Prop) (lo hi : Nat) (w : World) (p : Value) (L : List (Int × Int)) : Prop where
 held : Held (fun w => T w p L) lo hi w
 at_ : ∃ b, p = .pointer (some ⟨b, 0, none⟩) ∧ lo ≤ b ∧ b < hi
 ob : ∀ b, p = .pointer (some ⟨b, 0, none⟩) → ∃ cs t, w.heap[b]? = some (.cells cs t (0, 0))
theorem TabN.on {T : World → Value → List (Int × Int) → Prop} {lo hi : Nat} {w w' : World} {p : Value} {L : List (Int × Int)} (h : TabN T lo hi w p L) (hs : w.heap.size ≤ w'.heap.size) (hb : ∀ i, lo ≤ i → i < hi → w'.heap[i]? = w.heap[i]?) : TabN T lo hi w' p L :=
 ⟨h.held.on hs hb, h.at_, fun b e => by
  obtain ⟨cs, t, ho⟩ := h.ob b e
  obtain ⟨b', e', h1, h2⟩ := h.at_
  have : b = b' := by rw [e] at e'; simpa using e'
  exact ⟨cs, t, (hb b (by omega) (by omega)).trans ho⟩⟩
theorem TabN.keepB {T : World → Value → List (Int × Int) → Prop} {lo hi : Nat} {w w' : World} {p : Value} {L : List (Int × Int)} (h : TabN T lo hi w p L) (q : B w w') : TabN T lo hi w' p L :=
 h.on q.below.size fun i _ h2 => q.below.block i (Nat.lt_of_lt_of_le h2 h.held.le)
theorem ctab_held {w : World} {BB bt e xb : Nat} {v u : Value} {L : List (Int × Int)} (hL : 1 ≤ L.length) (t : Two w BB bt e v u (lowL L) (highL L) xb) (hh : w.cell? ⟨bt, 0, none⟩ = some (.int .i64 (L.length * 100))) :
  TabN CTab BB w.heap.size w (.pointer (some ⟨bt, 0, none⟩)) L := by
 have o1 := t.l.own
 have o2 := t.h.own
 rw [lowL_len] at o1
 rw [highL_len] at o2
 obtain ⟨g1, c1, rfl⟩ := own_some o1 hL
 obtain ⟨g2, c2, rfl⟩ := own_some o2 hL
 have b1 := o1.lt g1 rfl
 have b2 := o2.lt g2 rfl
 have b3 := t.l.blt
 have b4 := t.l.lo
 have main : ∀ w' : World, (∀ i, BB ≤ i → i < w.heap.size → w'.heap[i]? = w.heap[i]?) → CTab w' (.pointer (some ⟨bt, 0, none⟩)) L := fun w' hb => by
  have k := fun (off : Nat) => World.cell?_of_block (a := ⟨bt, off, none⟩) (hb bt b4 b3)
  refine ⟨bt, ⟨g1, 0, none⟩, c1, ⟨g2, 0, none⟩, c2, hL, rfl, (k 0).trans hh, (k 1).trans t.l.cell, (k 2).trans t.h.cell, fun i hi => ?_, fun i hi => ?_⟩
  ·have e := o1.cells rfl i _ (lowL_get L i hi)
   rw [add0] at e ⊢
   exact (World.cell?_of_block (a := ⟨g1, i, none⟩) (hb g1 b1.1 b1.2)).trans e
  ·have e := o2.cells rfl i _ (highL_get L i hi)
   rw [add0] at e ⊢
   exact (World.cell?_of_block (a := ⟨g2, i, none⟩) (hb g2 b2.1 b2.2)).trans e
 exact ⟨⟨main w fun _ _ _ => rfl, Nat.le_refl _, main⟩, ⟨bt, rfl, b4, b3⟩, fun b e => by
  have : bt = b := by simpa using e
  subst this
  exact t.l.ob⟩
end Go.Proofs.YthlileddhgglnaaGreatDoor
namespace Go.Proofs.YthlileddhgglnaaGreatDoor
open Go.RowKit
structure G (S : Nat → Prop) (w w' : World) : Prop where
 os : w'.os = w.os
 tape : w'.tape = w.tape
 output : w'.output = w.output
 size : w.heap.size ≤ w'.heap.size
 block : ∀ i, i < w.heap.size → ¬ S i → w'.heap[i]? = w.heap[i]?
theorem G.refl (S : Nat → Prop) (w : World) : G S w w := ⟨rfl, rfl, rfl, Nat.le_refl _, fun _ _ _ => rfl⟩
theorem G.trans {S : Nat → Prop} {a b c : World} (h : G S a b) (k : G S b c) : G S a c :=
 ⟨k.os.trans h.os, k.tape.trans h.tape, k.output.trans h.output, Nat.le_trans h.size k.size, fun i hi hs => (k.block i (Nat.lt_of_lt_of_le hi h.size) hs).trans (h.block i hi hs)⟩
theorem B.g {w w' : World} (h : B w w') (S : Nat → Prop) : G S w w' := ⟨h.below.os, h.below.tape, h.below.output, h.below.size, fun i hi _ => h.below.block i hi⟩
theorem G.below {S : Nat → Prop} {w w' : World} (h : G S w w') {BB : Nat} (hS : ∀ i, S i → BB ≤ i) (hB : BB ≤ w.heap.size) : Below BB w w' :=
 ⟨h.os, h.tape, h.output, h.size, fun k hk => h.block k (by omega) (fun hs => by have := hS k hs; omega)⟩
theorem G.b {S : Nat → Prop} {W w w' : World} (h : G S w w') (hb : B W w) (hS : ∀ i, S i → W.heap.size ≤ i) : B W w' := ⟨hb.below.trans (h.below hS hb.below.size)⟩
theorem G.mono {S S' : Nat → Prop} {w w' : World} (h : G S w w') (hS : ∀ i, i < w.heap.size → S i → S' i) : G S' w w' :=
 ⟨h.os, h.tape, h.output, h.size, fun i hi hs => h.block i hi (fun h1 => hs (hS i hi h1))⟩
theorem G.drew {S : Nat → Prop} {a w : World} (h : G S a w) : G S a w.drew := ⟨h.os, h.tape, h.output, h.size, h.block⟩
theorem G.alloc {S : Nat → Prop} {a w : World} (h : G S a w) (o : Obj) : G S a (w.alloc o) :=
 h.trans ⟨rfl, rfl, rfl, by simp, fun i hi _ => Below.heap_alloc _ _ _ hi⟩
theorem G.setCell {S : Nat → Prop} {a w : World} (h : G S a w) {p : Addr} (hp : S p.block ∨ a.heap.size ≤ p.block) (v : Value) : G S a (w.setCell p v) :=
 ⟨h.os, h.tape, h.output, by simpa [World.setCell] using h.size, fun i hi hs => by
  rw [Below.heap_setCell w p v i (fun e => by rcases hp with hp | hp; exact hs (e ▸ hp); omega)]
  exact h.block i hi hs⟩
theorem G.grown {S : Nat → Prop} {a w w' : World} {row : Option Nat} (h : G S a w) (g : w.grownBy w' row) (hr : ∀ k, row = some k → S k ∨ a.heap.size ≤ k) : G S a w' :=
 ⟨g.os.trans h.os, g.tape.trans h.tape, g.output.trans h.output, Nat.le_trans h.size g.size, fun i hi hs => by
  rw [g.block i (Nat.lt_of_lt_of_le hi h.size) (fun e => by rcases hr i e.symm with h1 | h1; exact hs h1; omega)]
  exact h.block i hi hs⟩
theorem G.then_ {S S' : Nat → Prop} {a b c : World} (h : G S a b) (k : G S' b c) (hS : ∀ i, S' i → S i ∨ a.heap.size ≤ i) : G S a c :=
 ⟨k.os.trans h.os, k.tape.trans h.tape, k.output.trans h.output, Nat.le_trans h.size k.size, fun i hi hs => (k.block i (Nat.lt_of_lt_of_le hi h.size) (fun h1 => by rcases hS i h1 with h2 | h2; exact hs h2; omega)).trans (h.block i hi hs)⟩
theorem G.keep {S : Nat → Prop} {w w' : World} (h : G S w w') {p : Addr} {v : Value} (hp : ¬ S p.block) (hc : w.cell? p = some v) : w'.cell? p = some v :=
 (World.cell?_of_block (w := w) (h.block p.block (World.block_lt_of_cell? w p hc) hp)).trans hc
theorem G.unfrozen {S : Nat → Prop} {w w' : World} (h : G S w w') {p : Addr} {v : Value} (hp : ¬ S p.block) (hc : w.cell? p = some v) (hf : w.frozen? p = false) : w'.frozen? p = false :=
 (World.frozen?_of_block (w := w) (h.block p.block (World.block_lt_of_cell? w p hc) hp)).trans hf
theorem G.obj {S : Nat → Prop} {w w' : World} (h : G S w w') {b : Nat} {o : Obj} (hb : ¬ S b) (ho : w.heap[b]? = some o) : w'.heap[b]? = some o :=
 (h.block b (Array.getElem?_eq_some_iff.1 ho).1 hb).trans ho
theorem G.held {S : Nat → Prop} {T : World → Prop} {lo hi : Nat} {w w' : World} (h : G S w w') (k : Held T lo hi w) (hS : ∀ i, lo ≤ i → i < hi → ¬ S i) : Held T lo hi w' :=
 k.on h.size fun i h1 h2 => h.block i (Nat.lt_of_lt_of_le h2 k.le) (hS i h1 h2)
theorem G.tabN {S : Nat → Prop} {T : World → Value → List (Int × Int) → Prop} {lo hi : Nat} {w w' : World} {p : Value} {L : List (Int × Int)} (h : G S w w') (k : TabN T lo hi w p L) (hS : ∀ i, lo ≤ i → i < hi → ¬ S i) : TabN T lo hi w' p L :=
 k.on h.size fun i h1 h2 => h.block i (Nat.lt_of_lt_of_le h2 k.held.le) (hS i h1 h2)
theorem obj_lt {w : World} {b : Nat} {o : Obj} (h : w.heap[b]? = some o) : b < w.heap.size := (Array.getElem?_eq_some_iff.1 h).1
theorem obj_cell {w : World} {b : Nat} {cs : Array Value} {t : TypeId} {fz : Nat × Nat} (h : w.heap[b]? = some (.cells cs t fz)) (k : Nat) : w.cell? ⟨b, k, none⟩ = cs[k]? := by
 simp [World.cell?, h]
theorem obj_free {w : World} {b : Nat} {cs : Array Value} {t : TypeId} (h : w.heap[b]? = some (.cells cs t (0, 0))) (k : Nat) : w.frozen? ⟨b, k, none⟩ = false := by
 simp [World.frozen?, h]
theorem obj_map {w : World} {b : Nat} {es : Array MapEntry} {clock : Nat} (h : w.heap[b]? = some (.map es clock)) (k : Nat) : w.cell? ⟨b, k, none⟩ = none := by
 simp [World.cell?, h]
theorem obj_set {w : World} {b : Nat} {cs : Array Value} {t : TypeId} {fz : Nat × Nat} (h : w.heap[b]? = some (.cells cs t fz)) (k : Nat) (v : Value) : (w.setCell ⟨b, k, none⟩ v).heap[b]? = some (.cells (cs.setIfInBounds k v) t fz) := by
 simp [World.setCell, Array.getElem?_modify, h]
theorem obj_other {w : World} {b : Nat} {o : Obj} (h : w.heap[b]? = some o) {p : Addr} (hp : b ≠ p.block) (v : Value) : (w.setCell p v).heap[b]? = some o :=
 (Below.heap_setCell w p v b hp).trans h
theorem obj_new (w : World) (o : Obj) : (w.alloc o).heap[w.heap.size]? = some o := by
 show (w.heap.push o)[w.heap.size]? = some o
 simp
theorem obj_past {w : World} {b : Nat} {o : Obj} (h : w.heap[b]? = some o) (o' : Obj) : (w.alloc o').heap[b]? = some o :=
 (Below.heap_alloc w o' b (obj_lt h)).trans h
theorem isSecs_keepG {S : Nat → Prop} {w w' : World} {v : Value} {l : List Sec} (h : IsSecs w v l) (hS : ∀ i, S i → ∀ k r, w.cell? ⟨i, k, none⟩ ≠ some (.bool r)) (q : G S w w') : IsSecs w' v l := by
 rcases h with ⟨rfl, rfl⟩ | ⟨a, cap, rfl, h2, h3, h4⟩
 ·exact .inl ⟨rfl, rfl⟩
 ·refine .inr ⟨a, cap, rfl, h2, h3, fun i s hs => ⟨(h4 i s hs).1, ?_⟩⟩
  obtain ⟨f0, f1, f2, f3, f4, f5⟩ := (h4 i s hs).2
  have hsp : (a.add (i * 6)).spot = none := by
   cases hsp : (a.add (i * 6)).spot with
   | none => rfl
   | some x =>
    unfold World.cell? at f0
    split at f0
    ·simp [hsp] at f0
    ·cases f0
  have hb : ¬ S (a.add (i * 6)).block := fun hs' => by
   refine hS _ hs' (a.add (i * 6)).off s.r ?_
   rw [← f0]
   congr 1
   rw [← hsp]
  exact ⟨q.keep hb f0, q.keep hb f1, q.keep hb f2, q.keep hb f3, q.keep hb f4, q.keep hb f5⟩
end Go.Proofs.YthlileddhgglnaaGreatDoor
namespace Go.Proofs.YthlileddhgglnaaGreatDoor
open Go.RowKit
def kindO : Obj → Option (Option TypeId)
 | .cells _ t (0, 0) => some (some t)
 | .map _ _ => some none
 | _ => none
structure Tn (K : List (Option TypeId)) (base : Nat) (w w' : World) : Prop where
 os : w'.os = w.os
 tape : w'.tape = w.tape
 output : w'.output = w.output
 size : w.heap.size ≤ w'.heap.size
 block : ∀ i, i < w.heap.size → w'.heap[i]? = w.heap[i]? ∨ (base ≤ i ∧ ∃ k o, k ∈ K ∧ w.heap[i]? = some o ∧ kindO o = some k)
section
variable {K : List (Option TypeId)} {base : Nat} {a b c w w' : World}
theorem Tn.refl (K : List (Option TypeId)) (base : Nat) (w : World) : Tn K base w w := ⟨rfl, rfl, rfl, Nat.le_refl _, fun _ _ => .inl rfl⟩
theorem Tn.trans (h : Tn K base a b) (k : Tn K base b c) : Tn K base a c := by
 refine ⟨k.os.trans h.os, k.tape.trans h.tape, k.output.trans h.output, Nat.le_trans h.size k.size, fun i hi => ?_⟩
 rcases h.block i hi with h1 | h1
 ·rcases k.block i (Nat.lt_of_lt_of_le hi h.size) with k1 | ⟨k1, q', p, hq', k2, k3⟩
  ·exact .inl (k1.trans h1)
  ·exact .inr ⟨k1, q', p, hq', h1 ▸ k2, k3⟩
 ·exact .inr h1
theorem Tn.mono {K' : List (Option TypeId)} {base' : Nat} (h : Tn K base a b) (hK : ∀ k ∈ K, k ∈ K') (hb : base' ≤ base) : Tn K' base' a b :=
 ⟨h.os, h.tape, h.output, h.size, fun i hi => (h.block i hi).imp id fun ⟨h1, k, o, h2, h3⟩ => ⟨by omega, k, o, hK k h2, h3⟩⟩
theorem B.tn (h : B a b) (K : List (Option TypeId)) (base : Nat) : Tn K base a b := ⟨h.below.os, h.below.tape, h.below.output, h.below.size, fun i hi => .inl (h.below.block i hi)⟩
theorem Tn.below (h : Tn K base a b) {B0 : Nat} (hb : B0 ≤ base) (hs : B0 ≤ a.heap.size) : Below B0 a b :=
 ⟨h.os, h.tape, h.output, h.size, fun k hk => (h.block k (by omega)).elim id fun ⟨h1, _⟩ => by omega⟩
theorem Tn.toB {W : World} (h : Tn K base a b) (hB : B W a) (hb : W.heap.size ≤ base) : B W b := ⟨hB.below.trans (h.below hb hB.below.size)⟩
theorem Tn.obj (h : Tn K base a b) {i : Nat} {o : Obj} (ho : a.heap[i]? = some o) (hk : ∀ k ∈ K, kindO o ≠ some k) : b.heap[i]? = some o := by
 rcases h.block i (Array.getElem?_eq_some_iff.1 ho).1 with h1 | ⟨_, k, p, h1, h2, h3⟩
 ·exact h1.trans ho
 ·obtain rfl : p = o := Option.some.inj (h2.symm.trans ho)
  exact absurd h3 (hk k h1)
theorem Tn.objc (h : Tn K base a b) {i : Nat} {cs : Array Value} {t : TypeId} (ho : a.heap[i]? = some (.cells cs t (0, 0))) (hK : some t ∉ K) : b.heap[i]? = some (.cells cs t (0, 0)) :=
 h.obj ho fun k hk e => by
  have : some t = k := Option.some.inj e
  exact hK (this ▸ hk)
theorem Tn.objm (h : Tn K base a b) {i : Nat} {es : Array MapEntry} {c : Nat} (ho : a.heap[i]? = some (.map es c)) (hK : none ∉ K) : b.heap[i]? = some (.map es c) :=
 h.obj ho fun k hk e => by
  have : none = k := Option.some.inj e
  exact hK (this ▸ hk)
theorem Tn.dr (h : Tn K base a b) (k : Dr b c) : Tn K base a c := by
 obtain ⟨n, rfl⟩ := k
 exact ⟨h.os, h.tape, h.output, h.size, h.block⟩
theorem Tn.drew (h : Tn K base a b) : Tn K base a b.drew := ⟨h.os, h.tape, h.output, h.size, h.block⟩
theorem Tn.drewN (h : Tn K base a b) (n : Nat) : Tn K base a (b.drewN n) := h.trans (((B.refl b).drewN n).tn K base)
theorem Tn.alloc (h : Tn K base a b) (cs : Array Value) (t : TypeId) : Tn K base a (b.alloc (.cells cs t)) := h.trans (((B.refl b).alloc cs t).tn K base)
theorem Tn.set (h : Tn K base a b) {p : Addr} {cs : Array Value} {t : TypeId} (ho : b.heap[p.block]? = some (.cells cs t (0, 0))) (hK : some t ∈ K) (hb : base ≤ p.block) (v : Value) : Tn K base a (b.setCell p v) := by
 refine h.trans ⟨rfl, rfl, rfl, by simp [World.setCell], fun i hi => ?_⟩
 by_cases e : i = p.block
 ·subst e
  exact .inr ⟨hb, some t, .cells cs t (0, 0), hK, ho, rfl⟩
 ·exact .inl (Below.heap_setCell _ _ _ _ e)
theorem ownsRow_obj {base : Nat} {e : TypeId} {size n : Nat} {v : Value} {xs : List Value} (h : w.ownsRow base e size v n xs) {i : Nat} (hi : v.ownBlock = some i) : base ≤ i ∧ ∃ cs, w.heap[i]? = some (.cells cs e (0, 0)) := by
 rcases h.2 with ⟨rfl, _⟩ | ⟨g, cap, cur, rfl, hb, hg, _⟩
 ·simp [Value.ownBlock] at hi
 ·obtain rfl : g = i := by simpa [Value.ownBlock] using hi
  exact ⟨hb, cur, hg⟩
theorem Tn.appended (h : Tn K base a b) {base' : Nat} {e : TypeId} {size n : Nat} {v : Value} {xs : List Value} (ho : b.ownsRow base' e size v n xs)
  (g : b.grownBy c v.ownBlock) (hb : base ≤ base') (hK : some e ∈ K) : Tn K base a c := by
 refine h.trans ⟨g.os, g.tape, g.output, g.size, fun i hi => ?_⟩
 by_cases he : some i = v.ownBlock
 ·obtain ⟨h1, cs, h2⟩ := ownsRow_obj ho he.symm
  exact .inr ⟨by omega, some e, _, hK, h2, rfl⟩
 ·exact .inl (g.block i hi he)
theorem rows_apart {b1 b2 : Nat} {e1 e2 : TypeId} {s1 s2 n1 n2 : Nat} {v1 v2 : Value} {x1 x2 : List Value} (h1 : w.ownsRow b1 e1 s1 v1 n1 x1) (h2 : w.ownsRow b2 e2 s2 v2 n2 x2) (he : e1 ≠ e2) : v1.ownBlock = none ∨ v1.ownBlock ≠ v2.ownBlock := by
 cases hv : v1.ownBlock with
 | none => exact .inl rfl
 | some i =>
  right
  intro e
  obtain ⟨_, cs, h3⟩ := ownsRow_obj h1 hv
  obtain ⟨_, cs', h4⟩ := ownsRow_obj h2 e.symm
  rw [h3] at h4
  cases h4
  exact he rfl
theorem obj_apart {b2 : Nat} {e2 : TypeId} {s2 n2 : Nat} {v2 : Value} {x2 : List Value} {i : Nat} {o : Obj} (ho : w.heap[i]? = some o) (h2 : w.ownsRow b2 e2 s2 v2 n2 x2) (he : kindO o ≠ some (some e2)) : v2.ownBlock ≠ some i := by
 intro e
 obtain ⟨_, cs', h4⟩ := ownsRow_obj h2 e
 rw [ho] at h4
 cases h4
 exact he rfl
theorem obj_grown {row : Option Nat} (g : w.grownBy w' row) {i : Nat} {o : Obj} (ho : w.heap[i]? = some o) (hr : row ≠ some i) : w'.heap[i]? = some o :=
 (g.block i (Array.getElem?_eq_some_iff.1 ho).1 (fun e => hr e.symm)).trans ho
end
end Go.Proofs.YthlileddhgglnaaGreatDoor
namespace Go.Proofs.YthlileddhgglnaaGreatDoor
open Go.RowKit
def byteAt (s : ByteArray) (i : Nat) : Nat := (s.data.toList.getD i 0).toNat
def lowN (n : Nat) : Bool := decide (97 ≤ n) && decide (n ≤ 122)
def digN (n : Nat) : Bool := decide (48 ≤ n) && decide (n ≤ 57)
def nameS (s : ByteArray) : Bool := decide (1 ≤ s.size) && decide (s.size ≤ 16) && lowN (byteAt s 0) && (List.range s.size).all fun i => lowN (byteAt s i) || digN (byteAt s i)
theorem byteAt_get (s : ByteArray) (i : Nat) (h : i < s.size) : (s[i]'h).toNat = byteAt s i := by
 obtain ⟨⟨l⟩⟩ := s
 have h' : i < l.length := h
 show l[i].toNat = (l.getD i 0).toNat
 rw [List.getD_eq_getElem?_getD, List.getElem?_eq_getElem h']
 rfl
theorem nameS_size {s : ByteArray} (h : s.size < 1 ∨ 16 < s.size) : nameS s = false := by
 unfold nameS
 rcases h with h | h
 ·rw [decide_eq_false (show ¬ 1 ≤ s.size by omega)]; simp
 ·rw [decide_eq_false (show ¬ s.size ≤ 16 by omega)]; simp
theorem nameS_first {s : ByteArray} (h : lowN (byteAt s 0) = false) : nameS s = false := by
 unfold nameS; rw [h]; simp
theorem nameS_bad {s : ByteArray} {i : Nat} (hi : i < s.size) (h : (lowN (byteAt s i) || digN (byteAt s i)) = false) : nameS s = false := by
 have : ((List.range s.size).all fun i => lowN (byteAt s i) || digN (byteAt s i)) = false := by
  rw [List.all_eq_false]
  exact ⟨i, List.mem_range.2 hi, by simpa using h⟩
 unfold nameS; rw [this]; simp
theorem nameS_good {s : ByteArray} (h1 : 1 ≤ s.size) (h2 : s.size ≤ 16) (h3 : lowN (byteAt s 0) = true) (h : ∀ i, i < s.size → (lowN (byteAt s i) || digN (byteAt s i)) = true) : nameS s = true := by
 unfold nameS
 rw [decide_eq_true h1, decide_eq_true h2, h3]
 simp only [Bool.true_and]
 exact List.all_eq_true.2 fun i hi => h i (List.mem_range.1 hi)
end Go.Proofs.YthlileddhgglnaaGreatDoor
namespace Go.Proofs.YthlileddhgglnaaGreatDoor
open Go.RowKit
abbrev Wd := Nat × List UInt8
def capN (n : Nat) : Bool := decide (65 ≤ n) && decide (n ≤ 90)
def kindN (n : Nat) : Nat := if lowN n then 1 else if capN n then 2 else if digN n then 3 else if n = 46 then 4 else if n = 32 ∨ n = 9 then 5 else if n = 10 then 6 else if n = 35 then 7 else 0
section
variable {bs : List UInt8} {p : Nat} {c : UInt8} {out : List (List Wd)} {line : List Wd} {w : List UInt8} {note : Bool}
end
end Go.Proofs.YthlileddhgglnaaGreatDoor
namespace Go.Proofs.YthlileddhgglnaaGreatDoor
open Go.RowKit
theorem digN_iff {n : Nat} : digN n = true ↔ 48 ≤ n ∧ n ≤ 57 := by unfold digN; simp
theorem toList_data (s : ByteArray) : s.toList = s.data.toList := Go.Lib.toList_data s
theorem toList_empty (s : ByteArray) : s.toList.isEmpty = decide (s.size < 1) := by
 rw [toList_data]
 obtain ⟨⟨l⟩⟩ := s
 cases l <;> simp [ByteArray.size]
end Go.Proofs.YthlileddhgglnaaGreatDoor
namespace Go.Proofs.YthlileddhgglnaaGreatDoor
open Go.RowKit
def amOf (md : Region.Mode) (o : Oper) : Nat := o.after.toList.foldr (fun e m => if Region.binds md e then m ||| 2 ^ e.on else m) 0
def cfOf (md : Region.Mode) (ops : Array Oper) (oi : Oper) (i : Nat) : List Oper → Nat → Nat
 | [], _ => 0
 | oj :: l, j => (if j == i || (amOf md oj).testBit i || oi.apart ops oj then 0 else 2 ^ j) ||| cfOf md ops oi i l (j + 1)
def cfAll (md : Region.Mode) (ops : Array Oper) : List Oper → Nat → List Nat
 | [], _ => []
 | oi :: l, i => cfOf md ops oi i ops.toList 0 :: cfAll md ops l (i + 1)
def seqOk (n : Nat) (am cf : List Nat) : List (Nat × Nat) → Nat → Bool
 | [], done => (List.range n).all done.testBit
 | (i, k) :: l, done => decide (i < n) && !done.testBit i && (am.getD i 0 &&& done == am.getD i 0) &&
   (if k < 2 then (cf.getD i 0 &&& done == cf.getD i 0) else (List.range n).all (fun j => j == i || done.testBit j || !(am.getD j 0 &&& done == am.getD j 0))) && seqOk n am cf l (done ||| 2 ^ i)
def wpSeq (P : Program) (ops : Array Oper) (Q : Exit → Act → World → Prop) (S : World → Prop) : List (Nat × Nat) → Act → World → Prop
 | [], a, w => Q .normal a w
 | (i, k) :: l, a, w => ∃ o, ops[i]? = some o ∧
   (if k = 0 then ∃ v, (Region.wanted o (yielded ops a.tmps) = true ∧ ∀ w, S w → (execOp a.eval o).run P w = .ok (.value v) w) ∧ wpSeq P ops Q S l (a.put o.dst v) w
   else if k = 1 then Region.wanted o (yielded ops a.tmps) = false ∧ wpSeq P ops Q S l (a.put o.dst undef) w
   else wpOp P ops Q i (fun a' w' => S w' ∧ wpSeq P ops Q S l a' w') a w)
theorem testBit_pow (a b : Nat) : (2 ^ a).testBit b = decide (a = b) := Nat.testBit_two_pow
theorem amOf_bit (md : Region.Mode) (o : Oper) (k : Nat) : (amOf md o).testBit k = true ↔ ∃ e ∈ o.after, Region.binds md e = true ∧ e.on = k := by
 have h : ∀ l : List Edge, (l.foldr (fun e m => if Region.binds md e then m ||| 2 ^ e.on else m) 0).testBit k = true ↔ ∃ e ∈ l, Region.binds md e = true ∧ e.on = k := by
  intro l
  induction l with
  | nil => simp
  | cons e l ih =>
   rw [List.foldr_cons]
   by_cases hb : Region.binds md e = true
   ·rw [if_pos hb, Nat.testBit_or, Bool.or_eq_true, ih, testBit_pow]
    simp [hb]
    constructor
    ·rintro (h | h)
     ·exact Or.inr h
     ·exact Or.inl h
    ·rintro (h | h)
     ·exact Or.inr h
     ·exact Or.inl h
   ·rw [if_neg hb, ih]
    simp [hb]
 unfold amOf
 rw [h]
 simp
theorem sub_bits {a b : Nat} (h : (a &&& b == a) = true) (k : Nat) (hk : a.testBit k = true) : b.testBit k = true := by
 have e : a &&& b = a := by simpa using h
 rw [← e, Nat.testBit_and, Bool.and_eq_true] at hk
 exact hk.2
theorem bits_sub {a b : Nat} (h : ∀ k, a.testBit k = true → b.testBit k = true) : (a &&& b == a) = true := by
 rw [beq_iff_eq]
 refine Nat.eq_of_testBit_eq fun k => ?_
 rw [Nat.testBit_and]
 cases e : a.testBit k
 ·rfl
 ·rw [h k e]; rfl
theorem cfOf_bit (md : Region.Mode) (ops : Array Oper) (oi : Oper) (i j : Nat) (oj : Oper) (hji : j ≠ i) (hn : (amOf md oj).testBit i = false) (ha : oi.apart ops oj = false) :
  ∀ (l : List Oper) (s k : Nat), l[k]? = some oj → s + k = j → (cfOf md ops oi i l s).testBit j = true
 | [], _, _, h, _ => by simp at h
 | o :: l, s, 0, h, e => by
  simp at h e
  subst h e
  unfold cfOf
  rw [Nat.testBit_or, if_neg (by simp [hji, hn, ha]), testBit_pow]
  simp
 | o :: l, s, k + 1, h, e => by
  unfold cfOf
  rw [Nat.testBit_or, cfOf_bit md ops oi i j oj hji hn ha l (s + 1) k (by simpa using h) (by omega)]
  simp
theorem cfAll_get (md : Region.Mode) (ops : Array Oper) : ∀ (l : List Oper) (s k : Nat) (o : Oper), l[k]? = some o → (cfAll md ops l s)[k]? = some (cfOf md ops o (s + k) ops.toList 0)
 | [], _, _, _, h => by simp at h
 | o :: l, s, 0, _, h => by simp at h; subst h; simp [cfAll]
 | _ :: l, s, k + 1, o, h => by
  unfold cfAll
  rw [List.getElem?_cons_succ, cfAll_get md ops l (s + 1) k o (by simpa using h)]
  congr 2
  omega
structure Inv (n : Nat) (listed : Array Bool) (done : Nat) : Prop where
 size : listed.size = n
 get : ∀ j, j < n → listed[j]? = some (done.testBit j)
 far : ∀ j, n ≤ j → done.testBit j = false
theorem Inv.getF {n done j : Nat} {listed : Array Bool} (h : Inv n listed done) : listed.getD j false = done.testBit j := by
 by_cases c : j < n
 ·rw [Array.getD_eq_getD_getElem?, h.get j c]; rfl
 ·rw [Array.getD_eq_getD_getElem?, Array.getElem?_eq_none (by rw [h.size]; omega), h.far j (by omega)]; rfl
theorem Inv.getT {n done j : Nat} {listed : Array Bool} (h : Inv n listed done) (c : j < n) : listed.getD j true = done.testBit j := by
 rw [Array.getD_eq_getD_getElem?, h.get j c]; rfl
theorem Inv.set {n done i : Nat} {listed : Array Bool} (h : Inv n listed done) (hi : i < n) : Inv n (listed.setIfInBounds i true) (done ||| 2 ^ i) where
 size := by rw [Array.size_setIfInBounds, h.size]
 get j hj := by
  rw [Array.getElem?_setIfInBounds, Nat.testBit_or, testBit_pow]
  by_cases e : i = j
  ·subst e; simp [h.size, hj]
  ·rw [if_neg e, h.get j hj]; simp [e]
 far j hj := by
  rw [Nat.testBit_or, testBit_pow, h.far j hj]
  simp; omega
theorem Inv.start (n : Nat) : Inv n (Array.replicate n false) 0 where
 size := by simp
 get j hj := by simp [hj]
 far j _ := by simp
theorem wpAnyH_seq {P : Program} {md : Region.Mode} {ops : Array Oper} {Q : Exit → Act → World → Prop} {S : World → Prop} (am cf : List Nat)
  (ham : ops.toList.map (amOf md) = am) (hcf : cfAll md ops ops.toList 0 = cf) (hs : Region.noSelect ops = true)
  (hQ : ∀ c a w d v, Q (.panic c) (Act.put a d v) w → Q (.panic c) a w) :
  ∀ (l : List (Nat × Nat)) (done : Nat) (listed : Array Bool) (a : Act) (w : World), Inv ops.size listed done → seqOk ops.size am cf l done = true → S w →
   wpSeq P ops Q S l a w → wpAnyH P md ops Q S l.length listed a w := by
 have am_get : ∀ (i : Nat) (o : Oper), ops[i]? = some o → am.getD i 0 = amOf md o := by
  intro i o ho
  rw [← ham, List.getD_eq_getElem?_getD, List.getElem?_map, Array.getElem?_toList, ho]; rfl
 have cf_get : ∀ (i : Nat) (o : Oper), ops[i]? = some o → cf.getD i 0 = cfOf md ops o i ops.toList 0 := by
  intro i o ho
  rw [← hcf, List.getD_eq_getElem?_getD, cfAll_get md ops ops.toList 0 i o (by rw [Array.getElem?_toList]; exact ho), Nat.zero_add]; rfl
 have is_ready : ∀ (i done : Nat) (listed : Array Bool) (o : Oper), Inv ops.size listed done → ops[i]? = some o → done.testBit i = false → (am.getD i 0 &&& done == am.getD i 0) = true → i ∈ Region.ready md ops listed := by
  intro i done listed o hI ho hd ha
  have hin : i < ops.size := (Array.getElem?_eq_some_iff.1 ho).1
  refine mem_ready.2 ⟨by rw [hI.getT hin]; exact hd, o, ho, fun e he hb => ?_⟩
  rw [hI.getF]
  rw [am_get i o ho] at ha
  exact sub_bits ha e.on ((amOf_bit md o e.on).2 ⟨e, he, hb, rfl⟩)
 have ready_is : ∀ (i done : Nat) (listed : Array Bool), Inv ops.size listed done → i ∈ Region.ready md ops listed → i < ops.size ∧ done.testBit i = false ∧ (am.getD i 0 &&& done == am.getD i 0) = true := by
  intro i done listed hI hr
  obtain ⟨h1, o, ho, h2⟩ := mem_ready.1 hr
  have hin : i < ops.size := (Array.getElem?_eq_some_iff.1 ho).1
  refine ⟨hin, by rw [← hI.getT hin]; exact h1, ?_⟩
  rw [am_get i o ho]
  refine bits_sub fun k hk => ?_
  obtain ⟨e, he, hb, rfl⟩ := (amOf_bit md o k).1 hk
  rw [← hI.getF]
  exact h2 e he hb
 intro l
 induction l with
 | nil =>
  intro done listed a w hI hk _ h
  refine ⟨?_, h⟩
  refine List.eq_nil_iff_forall_not_mem.2 fun i hi => ?_
  obtain ⟨h1, h2, _⟩ := ready_is i done listed hI hi
  have := List.all_eq_true.1 hk i (List.mem_range.2 h1)
  rw [h2] at this
  cases this
 | cons x l ih =>
  obtain ⟨i, k⟩ := x
  intro done listed a w hI hk hS h
  unfold seqOk at hk
  simp only [Bool.and_eq_true, decide_eq_true_eq, Bool.not_eq_true'] at hk
  obtain ⟨⟨⟨⟨k1, k2⟩, k3⟩, k4⟩, k5⟩ := hk
  obtain ⟨o, ho, h⟩ := h
  have hr := is_ready i done listed o hI ho k2 k3
  have hI' := hI.set k1
  have hfree : k < 2 → ∀ j oj, ops[j]? = some oj → j ≠ i → listed.getD j true = false → (∀ e ∈ oj.after, Region.binds md e = true → e.on ≠ i) → o.apart ops oj = true := by
   intro hk2 j oj hj hji hun hno
   rw [if_pos hk2, cf_get i o ho] at k4
   cases c : o.apart ops oj
   ·exfalso
    have hjn : j < ops.size := (Array.getElem?_eq_some_iff.1 hj).1
    have hb : (amOf md oj).testBit i = false := by
     cases e : (amOf md oj).testBit i
     ·rfl
     ·obtain ⟨x, hx, hxb, hxi⟩ := (amOf_bit md oj i).1 e
      exact absurd hxi (hno x hx hxb)
    have := sub_bits k4 j (cfOf_bit md ops o i j oj hji hb c ops.toList 0 j (by rw [Array.getElem?_toList]; exact hj) (Nat.zero_add _))
    rw [hI.getT hjn, this] at hun
    cases hun
   ·rfl
  rw [List.length_cons]
  by_cases c0 : k = 0
  ·rw [if_pos c0] at h
   obtain ⟨v, ⟨hw, hv⟩, h⟩ := h
   exact wpAnyH_first ho (Region.noSelect_spec hs) (fun c a w h => hQ c a w _ _ h) l.length listed a w (hfree (by omega)) hr (Or.inl ⟨hw, hv⟩) hS (ih _ _ _ _ hI' k5 hS h)
  ·rw [if_neg c0] at h
   by_cases c1 : k = 1
   ·rw [if_pos c1] at h
    exact wpAnyH_first ho (Region.noSelect_spec hs) (fun c a w h => hQ c a w _ _ h) l.length listed a w (hfree (by omega)) hr (Or.inr ⟨h.1, rfl⟩) hS (ih _ _ _ _ hI' k5 hS h.2)
   ·rw [if_neg c1] at h
    refine ⟨fun e => (by rw [e] at hr; cases hr), fun j hj => ?_⟩
    have hji : j = i := by
     obtain ⟨q1, q2, q3⟩ := ready_is j done listed hI hj
     rw [if_neg (by omega)] at k4
     have := List.all_eq_true.1 k4 j (List.mem_range.2 q1)
     rw [q2, q3] at this
     simpa using this
    subst hji
    exact wpOp_mono (fun a' w' h' => ⟨h'.1, ih _ _ _ _ hI' k5 h'.1 h'.2⟩) h
theorem wp_region_seq {P : Program} {ops : Array Oper} {Q : Exit → Act → World → Prop} {S : World → Prop} {id : Nat} {a : Act} {w : World} (l : List (Nat × Nat)) (am cf : List Nat) (hm : P.follows .mixedOrders = true)
  (hk : (Region.noSelect ops && decide (l.length = ops.size) && decide (ops.toList.map (amOf .any) = am) && decide (cfAll .any ops ops.toList 0 = cf) && seqOk ops.size am cf l 0) = true)
  (hQ : ∀ c a w d v, Q (.panic c) (Act.put a d v) w → Q (.panic c) a w) (hS : S w.drew)
  (h : S w.drew → wpSeq P ops Q S l a w.drew) : (Code.region id ops true).wp P Q a w := by
 simp only [Bool.and_eq_true, decide_eq_true_eq] at hk
 obtain ⟨⟨⟨⟨h1, h2⟩, h3⟩, h4⟩, h5⟩ := hk
 refine wp_region_held_drew hm hS fun hS => ?_
 rw [← h2]
 have := wpAnyH_seq (P := P) (md := .any) (S := S) am cf h3 h4 h1 hQ l 0 (Array.replicate ops.size false) a w.drew (Inv.start _) h5 hS (h hS)
 rw [h2] at this ⊢
 exact this
theorem wpSeq_take {P : Program} {ops : Array Oper} {Q : Exit → Act → World → Prop} {S : World → Prop} {l : List (Nat × Nat)} {t : List Value} {df : List _} {w : World} {i d : Nat} {o : Oper} {v : Value}
  (ho : ops.toList[i]? = some o) (hd : o.dst = some d) (hw : Region.wanted o (yielded ops t.toArray) = true)
  (hy : ∀ w, S w → (execOp (Act.eval { tmps := t.toArray, defers := df }) o).run P w = .ok (.value v) w)
  (h : wpSeq P ops Q S l { tmps := (t.set d v).toArray, defers := df } w) : wpSeq P ops Q S ((i, 0) :: l) { tmps := t.toArray, defers := df } w := by
 refine ⟨o, by rw [← Array.getElem?_toList]; exact ho, ?_⟩
 rw [if_pos rfl]
 refine ⟨v, ⟨hw, hy⟩, ?_⟩
 have e : Act.put { tmps := t.toArray, defers := df } o.dst v = { tmps := (t.set d v).toArray, defers := df } := by
  rw [hd]; simp [Act.put]
 rw [e]
 exact h
theorem wpSeq_call {P : Program} {ops : Array Oper} {Q : Exit → Act → World → Prop} {S : World → Prop} {l : List (Nat × Nat)} {a : Act} {w : World} {i : Nat} {o : Oper}
  (ho : ops.toList[i]? = some o) (hw : Region.wanted o (yielded ops a.tmps) = true)
  (h : ∀ K' : Act → World → Prop, Shut (∀ a w, S w → (S w → wpSeq P ops Q S l a w) → K' a w) → Oper.wp P o a w K' Q) : wpSeq P ops Q S ((i, 2) :: l) a w := by
 rw [Array.getElem?_toList] at ho
 refine ⟨o, ho, ?_⟩
 rw [if_neg (by decide), if_neg (by decide)]
 refine wpOp_step ho fun K' hK => ?_
 rw [if_pos hw]
 exact h K' fun a w hS h => hK a w ⟨hS, h hS⟩
theorem wpSeq_done {P : Program} {ops : Array Oper} {Q : Exit → Act → World → Prop} {S : World → Prop} {a : Act} {w : World} (h : Q .normal a w) : wpSeq P ops Q S [] a w := h
end Go.Proofs.YthlileddhgglnaaGreatDoor
