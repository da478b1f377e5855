/-
  Two rows of sums that a struct's fields hold and that grow, one behind the other: from no row on. No program is named here.
-/
import Derived.Test.YtkiepmfknbbeaaaTabw
namespace Go.Proofs.Ytkiepmfknbbeaaa
open Go.RowKit

/-- Sums up to each slice: the lower ones, the upper ones. -/
def lowL (M : List (Int × Int)) : List Value := (List.range M.length).map fun k => Value.int .i64 (lowT M (k + 1))
def highL (M : List (Int × Int)) : List Value := (List.range M.length).map fun k => Value.int .i64 (highT M (k + 1))
theorem lowL_len (M : List (Int × Int)) : (lowL M).length = M.length := by simp [lowL]
theorem highL_len (M : List (Int × Int)) : (highL M).length = M.length := by simp [highL]
theorem lowL_get (M : List (Int × Int)) (k : Nat) (h : k < M.length) : (lowL M)[k]? = some (.int .i64 (lowT M (k + 1))) := by
  unfold lowL
  rw [List.getElem?_map, List.getElem?_range h]
  rfl
theorem highL_get (M : List (Int × Int)) (k : Nat) (h : k < M.length) : (highL M)[k]? = some (.int .i64 (highT M (k + 1))) := by
  unfold highL
  rw [List.getElem?_map, List.getElem?_range h]
  rfl
theorem lowT_snoc (M : List (Int × Int)) (x : Int × Int) : lowT (M ++ [x]) (M.length + 1) = lowT M M.length + x.1 := by
  rw [lowT_succ _ _ x (by simp), lowT_prefix _ _ _ (Nat.le_refl _)]
theorem highT_snoc (M : List (Int × Int)) (x : Int × Int) : highT (M ++ [x]) (M.length + 1) = highT M M.length + x.2 := by
  rw [highT_succ _ _ x (by simp), highT_prefix _ _ _ (Nat.le_refl _)]
theorem lowL_snoc (M : List (Int × Int)) (x : Int × Int) : lowL (M ++ [x]) = lowL M ++ [.int .i64 (lowT M M.length + x.1)] := by
  unfold lowL
  rw [List.length_append, List.length_singleton, List.range_succ, List.map_append, List.map_singleton, lowT_snoc]
  congr 1
  exact List.map_congr_left fun k hk => by rw [lowT_prefix _ _ _ (by have := List.mem_range.1 hk; omega)]
theorem highL_snoc (M : List (Int × Int)) (x : Int × Int) : highL (M ++ [x]) = highL M ++ [.int .i64 (highT M M.length + x.2)] := by
  unfold highL
  rw [List.length_append, List.length_singleton, List.range_succ, List.map_append, List.map_singleton, highT_snoc]
  congr 1
  exact List.map_congr_left fun k hk => by rw [highT_prefix _ _ _ (by have := List.mem_range.1 hk; omega)]

theorem own_keep {w w' : World} {B e sz n : Nat} {v : Value} {xs : List Value} (h : w.ownsRow B e sz v n xs) (hb : ∀ g, v.ownBlock = some g → w'.heap[g]? = w.heap[g]?) : w'.ownsRow B e sz v n xs := by
  obtain ⟨h1, h0 | ⟨g, cap, cur, rfl, h2, h3, r⟩⟩ := h
  · exact ⟨h1, .inl h0⟩
  · exact ⟨h1, .inr ⟨g, cap, cur, rfl, h2, (hb g rfl).trans h3, r⟩⟩

theorem cell_set {w : World} {b : Nat} {cs : Array Value} {t : TypeId} {fz : Nat × Nat} (h : w.heap[b]? = some (.cells cs t fz)) (k : Nat) (v : Value) : (w.setCell ⟨b, k, none⟩ v).heap[b]? = some (.cells (cs.setIfInBounds k v) t fz) := by
  simp [World.setCell, Array.getElem?_modify, h]
/-- A field of a struct in memory holds a slice that the call owns, or none. -/
structure Fld (w : World) (BB bt off e : Nat) (v : Value) (xs : List Value) : Prop where
  cell : w.cell? ⟨bt, off, none⟩ = some v
  fz : w.frozen? ⟨bt, off, none⟩ = false
  own : w.ownsRow BB e 1 v xs.length xs
  ne : v.ownBlock ≠ some bt
  lo : BB ≤ bt
  ob : ∃ cs t, w.heap[bt]? = some (.cells cs t (0, 0))
theorem Fld.blt {w : World} {BB bt off e : Nat} {v : Value} {xs : List Value} (h : Fld w BB bt off e v xs) : bt < w.heap.size := World.block_lt_of_cell? w _ h.cell
theorem Fld.blocks {w w' : World} {BB bt off e : Nat} {v : Value} {xs : List Value} (h : Fld w BB bt off e v xs) (h1 : w'.heap[bt]? = w.heap[bt]?) (h2 : ∀ g, v.ownBlock = some g → w'.heap[g]? = w.heap[g]?) : Fld w' BB bt off e v xs :=
  ⟨(World.cell?_of_block (a := ⟨bt, off, none⟩) h1).trans h.cell, (World.frozen?_of_block (a := ⟨bt, off, none⟩) h1).trans h.fz, own_keep h.own h2, h.ne, h.lo, by obtain ⟨cs, t, ho⟩ := h.ob; exact ⟨cs, t, h1.trans ho⟩⟩
theorem Fld.keepB {w w' : World} {BB bt off e : Nat} {v : Value} {xs : List Value} (h : Fld w BB bt off e v xs) (q : B w w') : Fld w' BB bt off e v xs :=
  h.blocks (q.below.block _ h.blt) (fun g hg => q.below.block _ (h.own.lt g hg).2)
theorem Fld.grown {w w' : World} {BB bt off e : Nat} {v : Value} {xs : List Value} {row : Option Nat} (h : Fld w BB bt off e v xs) (q : w.grownBy w' row) (hb : some bt ≠ row) (hg : ∀ g, v.ownBlock = some g → some g ≠ row) : Fld w' BB bt off e v xs :=
  h.blocks (q.block _ h.blt hb) (fun g hg' => q.block _ (h.own.lt g hg').2 (hg g hg'))
theorem Fld.other {w : World} {BB bt off e : Nat} {v : Value} {xs : List Value} (h : Fld w BB bt off e v xs) (off2 : Nat) (hne : off2 ≠ off) (u : Value) : Fld (w.setCell ⟨bt, off2, none⟩ u) BB bt off e v xs :=
  ⟨(World.cell?_setCell_other w ⟨bt, off2, none⟩ ⟨bt, off, none⟩ u (fun e => hne (congrArg Addr.off e))).trans h.cell, (World.frozen?_setCell w _ _ u).trans h.fz, own_keep h.own (fun g hg => Below.heap_setCell w ⟨bt, off2, none⟩ u g (fun e => h.ne (by rw [hg, e]))), h.ne, h.lo, by obtain ⟨cs, t, ho⟩ := h.ob; exact ⟨_, t, cell_set ho off2 u⟩⟩
/-- It has grown, and the field holds it. -/
theorem Fld.put {w : World} {BB bt off e n : Nat} {v : Value} {xs : List Value} (hl : xs.length = n) (h : w.ownsRow BB e 1 v n xs) {u : Value} (hc : w.cell? ⟨bt, off, none⟩ = some u) (hf : w.frozen? ⟨bt, off, none⟩ = false) (hne : v.ownBlock ≠ some bt) (hlo : BB ≤ bt) (ho : ∃ cs t, w.heap[bt]? = some (.cells cs t (0, 0))) :
    Fld (w.setCell ⟨bt, off, none⟩ v) BB bt off e v xs :=
  ⟨World.cell?_setCell_same w ⟨bt, off, none⟩ _ hc, (World.frozen?_setCell w _ _ _).trans hf, hl ▸ own_keep h (fun g hg => Below.heap_setCell w ⟨bt, off, none⟩ _ g (fun e => hne (by rw [hg, e]))), hne, hlo, by obtain ⟨cs, t, ho⟩ := ho; exact ⟨_, t, cell_set ho off v⟩⟩

/-- Both fields: rows apart from one another, and from a block that is to stay (xb). -/
structure Two (w : World) (BB bt e : Nat) (v u : Value) (xs ys : List Value) (xb : Nat) : Prop where
  l : Fld w BB bt 1 e v xs
  h : Fld w BB bt 2 e u ys
  ap : ∀ g, v.ownBlock = some g → u.ownBlock ≠ some g
  xv : v.ownBlock ≠ some xb
  xu : u.ownBlock ≠ some xb
  xt : xb ≠ bt
theorem Two.keepB {w w' : World} {BB bt e xb : Nat} {v u : Value} {xs ys : List Value} (h : Two w BB bt e v u xs ys xb) (q : B w w') : Two w' BB bt e v u xs ys xb :=
  ⟨h.l.keepB q, h.h.keepB q, h.ap, h.xv, h.xu, h.xt⟩
/-- What is told of the rows behind the first append, behind both, behind both stores: the worlds one by one. -/
theorem two_first {W W1 wN : World} {BB bt e xb g1 : Nat} {v u : Value} {xs ys : List Value} (t : Two W BB bt e v u xs ys xb) (q : B W W1)
    (hg : W1.grownBy wN v.ownBlock) (hat : v.ownBlock = some g1 ∨ g1 = W1.heap.size) :
    wN.cell? ⟨bt, 1, none⟩ = some v ∧ wN.frozen? ⟨bt, 1, none⟩ = false ∧ g1 ≠ bt ∧ u.ownBlock ≠ some g1 ∧ Fld wN BB bt 2 e u ys ∧ BB ≤ wN.heap.size ∧ bt < wN.heap.size := by
  have t1 := t.keepB q
  have hb : some bt ≠ v.ownBlock := fun e => t.l.ne e.symm
  refine ⟨(World.cell?_of_block (a := ⟨bt, 1, none⟩) (hg.block bt t1.l.blt hb)).trans t1.l.cell, (World.frozen?_of_block (a := ⟨bt, 1, none⟩) (hg.block bt t1.l.blt hb)).trans t1.l.fz, ?_, ?_, ?_, ?_, ?_⟩
  · rcases hat with e | e
    · intro h; rw [h] at e; exact hb e.symm
    · have := t1.l.blt; omega
  · rcases hat with e | e
    · exact t.ap _ e
    · intro h
      have := (t1.h.own.lt _ h).2
      omega
  · exact t1.h.grown hg hb (fun g hg' e => t.ap g e.symm hg')
  · have := t1.l.blt; have := t.l.lo; have := hg.size; omega
  · have := t1.l.blt; have := hg.size; omega
theorem two_mid {wN W2 wM : World} {BB bt e g2 : Nat} {v u : Value} {ys : List Value} (f1 : wN.cell? ⟨bt, 1, none⟩ = some v) (f2 : wN.frozen? ⟨bt, 1, none⟩ = false) (f5 : Fld wN BB bt 2 e u ys) (q : B wN W2)
    (hg : W2.grownBy wM u.ownBlock) (hat : u.ownBlock = some g2 ∨ g2 = W2.heap.size) :
    wM.heap[bt]? = wN.heap[bt]? ∧ wM.cell? ⟨bt, 1, none⟩ = some v ∧ wM.frozen? ⟨bt, 1, none⟩ = false ∧ wM.cell? ⟨bt, 2, none⟩ = some u ∧ wM.frozen? ⟨bt, 2, none⟩ = false ∧ g2 ≠ bt := by
  have F5 := f5.keepB q
  have e1 : wM.heap[bt]? = wN.heap[bt]? := (hg.block bt F5.blt (fun e => f5.ne e.symm)).trans (q.below.block bt f5.blt)
  refine ⟨e1, (World.cell?_of_block (a := ⟨bt, 1, none⟩) e1).trans f1, (World.frozen?_of_block (a := ⟨bt, 1, none⟩) e1).trans f2, (World.cell?_of_block (a := ⟨bt, 2, none⟩) e1).trans f5.cell, (World.frozen?_of_block (a := ⟨bt, 2, none⟩) e1).trans f5.fz, ?_⟩
  rcases hat with e | e
  · intro h; rw [h] at e; exact f5.ne e
  · have := F5.blt; omega
theorem two_store {wM : World} {bt : Nat} {u : Value} (x1 : wM.cell? ⟨bt, 2, none⟩ = some u) (x2 : wM.frozen? ⟨bt, 2, none⟩ = false) (z : Value) :
    (wM.setCell ⟨bt, 1, none⟩ z).cell? ⟨bt, 2, none⟩ = some u ∧ (wM.setCell ⟨bt, 1, none⟩ z).frozen? ⟨bt, 2, none⟩ = false :=
  ⟨(World.cell?_setCell_other wM ⟨bt, 1, none⟩ ⟨bt, 2, none⟩ z (fun e => absurd (congrArg Addr.off e) (by show ¬ (1 = 2); omega))).trans x1, (World.frozen?_setCell wM _ _ _).trans x2⟩
theorem two_grow {W W1 wN W2 wM : World} {BB bt e xb n g1 c1 g2 c2 : Nat} {v u z y hv : Value} {xs ys : List Value} (t : Two W BB bt e v u xs ys xb) (hx : xs.length = n) (hy : ys.length = n) (q : B W W1)
    (ho : wN.ownsRow BB e 1 (.slice (some ⟨g1, 0, none⟩) (n + 1) c1) (n + 1) (xs ++ [z])) (hg : W1.grownBy wN v.ownBlock) (hat : v.ownBlock = some g1 ∨ g1 = W1.heap.size) (hlt : g1 < wN.heap.size) (qN : B wN W2)
    (ho2 : wM.ownsRow BB e 1 (.slice (some ⟨g2, 0, none⟩) (n + 1) c2) (n + 1) (ys ++ [y])) (hg2 : W2.grownBy wM u.ownBlock) (hat2 : u.ownBlock = some g2 ∨ g2 = W2.heap.size) (hxb : xb < W.heap.size) (hc : W.cell? ⟨bt, 0, none⟩ = some hv) :
    Two ((wM.setCell ⟨bt, 1, none⟩ (.slice (some ⟨g1, 0, none⟩) (n + 1) c1)).setCell ⟨bt, 2, none⟩ (.slice (some ⟨g2, 0, none⟩) (n + 1) c2)) BB bt e (.slice (some ⟨g1, 0, none⟩) (n + 1) c1) (.slice (some ⟨g2, 0, none⟩) (n + 1) c2) (xs ++ [z]) (ys ++ [y]) xb ∧
    ((wM.setCell ⟨bt, 1, none⟩ (.slice (some ⟨g1, 0, none⟩) (n + 1) c1)).setCell ⟨bt, 2, none⟩ (.slice (some ⟨g2, 0, none⟩) (n + 1) c2)).heap[xb]? = W.heap[xb]? ∧
    ((wM.setCell ⟨bt, 1, none⟩ (.slice (some ⟨g1, 0, none⟩) (n + 1) c1)).setCell ⟨bt, 2, none⟩ (.slice (some ⟨g2, 0, none⟩) (n + 1) c2)).cell? ⟨bt, 0, none⟩ = some hv ∧
    (∀ w0, w0.heap.size = BB → B w0 W → B w0 ((wM.setCell ⟨bt, 1, none⟩ (.slice (some ⟨g1, 0, none⟩) (n + 1) c1)).setCell ⟨bt, 2, none⟩ (.slice (some ⟨g2, 0, none⟩) (n + 1) c2))) := by
  obtain ⟨f1, f2, f3, f4, f5, f6, f7⟩ := two_first t q hg hat
  obtain ⟨e1, y1, y2, x1, x2, nb2⟩ := two_mid f1 f2 f5 qN hg2 hat2
  have t1 := t.keepB q
  have bl1 := hg2.block g1 (by have := qN.below.size; omega) (fun e => f4 e.symm)
  have e2 : wM.heap[g1]? = wN.heap[g1]? := bl1.trans (qN.below.block g1 hlt)
  have o1 : wM.ownsRow BB e 1 (.slice (some ⟨g1, 0, none⟩) (n + 1) c1) (n + 1) (xs ++ [z]) := own_keep ho (fun g hg => by cases hg; exact e2)
  have n12 : g1 ≠ g2 := by
    rcases hat2 with e | e
    · intro h; rw [h] at f4; exact f4 e
    · have := qN.below.size; omega
  have s1 := q.below.size
  have s2 := hg.size
  have s3 := qN.below.size
  have s4 := hg2.size
  have nx1 : g1 ≠ xb := by
    rcases hat with e | e
    · intro h; rw [h] at e; exact t.xv e
    · omega
  have nx2 : g2 ≠ xb := by
    rcases hat2 with e | e
    · intro h; rw [h] at e; exact t.xu e
    · omega
  have st := two_store x1 x2 (.slice (some ⟨g1, 0, none⟩) (n + 1) c1)
  obtain ⟨cs0, t0, ob0⟩ := t1.l.ob
  have obM : wM.heap[bt]? = some (.cells cs0 t0 (0, 0)) := e1.trans ((hg.block bt t1.l.blt (fun e => t.l.ne e.symm)).trans ob0)
  have A := Fld.put (off := 1) (by simp [hx]) o1 y1 y2 (show (Value.slice (some ⟨g1, 0, none⟩) (n + 1) c1).ownBlock ≠ some bt from fun e => f3 (Option.some.inj e)) t.l.lo ⟨cs0, t0, obM⟩
  have o2' : (wM.setCell ⟨bt, 1, none⟩ (.slice (some ⟨g1, 0, none⟩) (n + 1) c1)).ownsRow BB e 1 (.slice (some ⟨g2, 0, none⟩) (n + 1) c2) (n + 1) (ys ++ [y]) := own_keep ho2 (fun g hg => by cases hg; exact Below.heap_setCell wM ⟨bt, 1, none⟩ _ g2 nb2)
  have H := Fld.put (off := 2) (by simp [hy]) o2' st.1 st.2 (show (Value.slice (some ⟨g2, 0, none⟩) (n + 1) c2).ownBlock ≠ some bt from fun e => nb2 (Option.some.inj e)) t.h.lo A.ob
  refine ⟨⟨A.other 2 (by omega) _, H, fun g hg => ?_, fun e => nx1 (Option.some.inj e), fun e => nx2 (Option.some.inj e), t.xt⟩, ?_, ?_, ?_⟩
  · cases hg
    exact fun e => n12 (Option.some.inj e).symm
  · rw [Below.heap_setCell _ ⟨bt, 2, none⟩ _ xb t.xt, Below.heap_setCell _ ⟨bt, 1, none⟩ _ xb t.xt, hg2.block xb (by omega) (fun e => t.xu e.symm), qN.below.block xb (by omega), hg.block xb (by omega) (fun e => t.xv e.symm), q.below.block xb hxb]
  · rw [World.cell?_setCell_other _ ⟨bt, 2, none⟩ ⟨bt, 0, none⟩ _ (fun e => absurd (congrArg Addr.off e) (by show ¬ (2 = 0); omega)), World.cell?_setCell_other _ ⟨bt, 1, none⟩ ⟨bt, 0, none⟩ _ (fun e => absurd (congrArg Addr.off e) (by show ¬ (1 = 0); omega)),
      World.cell?_of_block (a := ⟨bt, 0, none⟩) e1, World.cell?_of_block (a := ⟨bt, 0, none⟩) (hg.block bt t1.l.blt (fun e => t.l.ne e.symm))]
    exact q.keep hc
  · intro w0 h0 b0
    have b1 := (b0.trans q).grownBy hg (fun k hk => by rw [h0]; exact (t.l.own.lt k hk).1)
    have b2 := (b1.trans qN).grownBy hg2 (fun k hk => by rw [h0]; exact (t.h.own.lt k hk).1)
    exact (b2.setCell (p := ⟨bt, 1, none⟩) (by rw [h0]; exact t.l.lo) _).setCell (p := ⟨bt, 2, none⟩) (by rw [h0]; exact t.l.lo) _
/-- What is to be appended lies there still. -/
theorem news_grown {w w' : World} {row : Option Nat} {H : Nat} {cs : List Value} (h : ∀ j u, cs[j]? = some u → w.cell? ((⟨H, 0, none⟩ : Addr).add j) = some u) (g : w.grownBy w' row) (hlt : H < w.heap.size) (hne : some H ≠ row) :
    ∀ j u, cs[j]? = some u → w'.cell? ((⟨H, 0, none⟩ : Addr).add j) = some u :=
  fun j u hj => by
  have e : (⟨H, 0, none⟩ : Addr).add j = ⟨H, j, none⟩ := add0 H j
  have h1 := h j u hj
  rw [e] at h1 ⊢
  exact (World.cell?_of_block (a := ⟨H, j, none⟩) (g.block H hlt hne)).trans h1
/-- No rows yet: a struct just made. -/
theorem two_start (W : World) (BB e t : Nat) (hv : Value) (hB : BB ≤ W.heap.size) (xb : Nat) (hx : W.heap.size ≠ xb) :
    Two (W.alloc (.cells #[hv, .slice none 0 0, .slice none 0 0] t)) BB W.heap.size e (.slice none 0 0) (.slice none 0 0) [] [] xb := by
  have c := fun (k : Nat) => World.cell?_alloc_new W #[hv, .slice none 0 0, .slice none 0 0] t k
  have f := fun (k : Nat) => World.frozen?_alloc_new W #[hv, .slice none 0 0, .slice none 0 0] t k
  have n : (Value.slice none 0 0).ownBlock = none := rfl
  have o : ∃ cs t', (W.alloc (.cells #[hv, .slice none 0 0, .slice none 0 0] t)).heap[W.heap.size]? = some (.cells cs t' (0, 0)) := ⟨#[hv, .slice none 0 0, .slice none 0 0], t, by show (W.heap.push _)[W.heap.size]? = _; simp⟩
  exact ⟨⟨c 1, f 1, World.ownsRow_nil _ _ _ _, by rw [n]; simp, hB, o⟩, ⟨c 2, f 2, World.ownsRow_nil _ _ _ _, by rw [n]; simp, hB, o⟩, (fun g h => by rw [n] at h; cases h), by rw [n]; simp, by rw [n]; simp, Ne.symm hx⟩
/-- Another block is to stay. -/
theorem Two.stay {w : World} {BB bt e xb : Nat} {v u : Value} {xs ys : List Value} (h : Two w BB bt e v u xs ys xb) (yb : Nat) (hy : w.heap.size ≤ yb) : Two w BB bt e v u xs ys yb :=
  ⟨h.l, h.h, h.ap, fun e => by have := (h.l.own.lt _ e).2; omega, fun e => by have := (h.h.own.lt _ e).2; omega, by have := h.l.blt; omega⟩

/-- The code's table: sums of bounds lie there, one a slice. -/
def CTab (w : World) (p : Value) (L : List (Int × Int)) : Prop :=
  ∃ b aL cL aH cH, 1 ≤ L.length ∧ p = .pointer (some ⟨b, 0, none⟩) ∧ w.cell? ⟨b, 0, none⟩ = some (.int .i64 (L.length * 100)) ∧ w.cell? ⟨b, 1, none⟩ = some (.slice (some aL) L.length cL) ∧ w.cell? ⟨b, 2, none⟩ = some (.slice (some aH) L.length cH) ∧
    (∀ k, k < L.length → w.cell? (aL.add k) = some (.int .i64 (lowT L (k + 1)))) ∧ (∀ k, k < L.length → w.cell? (aH.add k) = some (.int .i64 (highT L (k + 1))))
theorem CTab.keepB {w w' : World} {p : Value} {L : List (Int × Int)} (h : CTab w p L) (q : B w w') : CTab w' p L := by
  obtain ⟨b, aL, cL, aH, cH, hn, h0, hh, h1, h2, h3, h4⟩ := h
  exact ⟨b, aL, cL, aH, cH, hn, h0, q.keep hh, q.keep h1, q.keep h2, fun k hk => q.keep (h3 k hk), fun k hk => q.keep (h4 k hk)⟩
theorem own_some {w : World} {B e n : Nat} {v : Value} {xs : List Value} (h : w.ownsRow B e 1 v n xs) (hn : 1 ≤ n) : ∃ g c, v = .slice (some ⟨g, 0, none⟩) n c := by
  obtain ⟨h1, ⟨_, h0⟩ | ⟨g, cap, cur, rfl, _⟩⟩ := h
  · omega
  · exact ⟨g, cap, rfl⟩
theorem ctab_of {w : World} {BB bt e xb : Nat} {v u : Value} {L : List (Int × Int)} (hL : 1 ≤ L.length) (t : Two w BB bt e v u (lowL L) (highL L) xb) (hh : w.cell? ⟨bt, 0, none⟩ = some (.int .i64 (L.length * 100))) : CTab w (.pointer (some ⟨bt, 0, none⟩)) L := by
  have o1 := t.l.own
  have o2 := t.h.own
  rw [lowL_len] at o1
  rw [highL_len] at o2
  obtain ⟨g1, c1, rfl⟩ := own_some o1 hL
  obtain ⟨g2, c2, rfl⟩ := own_some o2 hL
  exact ⟨bt, ⟨g1, 0, none⟩, c1, ⟨g2, 0, none⟩, c2, hL, rfl, hh, t.l.cell, t.h.cell, fun k hk => o1.cells rfl k _ (lowL_get L k hk), fun k hk => o2.cells rfl k _ (highL_get L k hk)⟩
theorem lowT_zero (L : List (Int × Int)) : lowT L 0 = 0 := by simp [lowT]
theorem highT_zero (L : List (Int × Int)) : highT L 0 = 0 := by simp [highT]
end Go.Proofs.Ytkiepmfknbbeaaa
