/-
  How tables lie in memory; a row that a struct's field holds and that grows. No program is named here.
-/
import Derived.Test.YtkiepmfknbbeaaaTabm
import Derived.Test.YtkiepmfknbbeaaaHeldw
import Derived.OwnWalk
import Derived.Laws.OwnMore
import Derived.Deep.AppendLies
namespace Go.Proofs.Ytkiepmfknbbeaaa
open Go.RowKit

/-- The cells of the sums of bounds: the lower ones, the upper ones. -/
def lowCells (M : List (Int × Int)) : List Value := (List.range (M.length + 1)).map fun k => Value.int .i64 (lowT M k)
def highCells (M : List (Int × Int)) : List Value := (List.range (M.length + 1)).map fun k => Value.int .i64 (highT M k)
theorem lowCells_len (M : List (Int × Int)) : (lowCells M).length = M.length + 1 := by simp [lowCells]
theorem highCells_len (M : List (Int × Int)) : (highCells M).length = M.length + 1 := by simp [highCells]
theorem lowCells_get (M : List (Int × Int)) (k : Nat) (h : k ≤ M.length) : (lowCells M)[k]? = some (.int .i64 (lowT M k)) := by
  unfold lowCells
  rw [List.getElem?_map, List.getElem?_range (by omega)]
  rfl
theorem highCells_get (M : List (Int × Int)) (k : Nat) (h : k ≤ M.length) : (highCells M)[k]? = some (.int .i64 (highT M k)) := by
  unfold highCells
  rw [List.getElem?_map, List.getElem?_range (by omega)]
  rfl
theorem lowT_prefix (M : List (Int × Int)) (x : Int × Int) (k : Nat) (h : k ≤ M.length) : lowT (M ++ [x]) k = lowT M k := lowT_left M [x] k h
theorem highT_prefix (M : List (Int × Int)) (x : Int × Int) (k : Nat) (h : k ≤ M.length) : highT (M ++ [x]) k = highT M k := by
  unfold highT
  rw [List.take_append_of_le_length h]
theorem lowCells_snoc (M : List (Int × Int)) (x : Int × Int) : lowCells (M ++ [x]) = lowCells M ++ [.int .i64 (lowT M M.length + x.1)] := by
  have e1 : lowT (M ++ [x]) (M.length + 1) = lowT M M.length + x.1 := by
    rw [lowT_succ _ _ x (by simp), lowT_prefix _ _ _ (Nat.le_refl _)]
  unfold lowCells
  rw [List.length_append, List.length_singleton, List.range_succ, List.map_append, List.map_singleton, e1]
  congr 1
  exact List.map_congr_left fun k hk => by rw [lowT_prefix _ _ _ (by have := List.mem_range.1 hk; omega)]
theorem highCells_snoc (M : List (Int × Int)) (x : Int × Int) : highCells (M ++ [x]) = highCells M ++ [.int .i64 (highT M M.length + x.2)] := by
  have e1 : highT (M ++ [x]) (M.length + 1) = highT M M.length + x.2 := by
    rw [highT_succ _ _ x (by simp), highT_prefix _ _ _ (Nat.le_refl _)]
  unfold highCells
  rw [List.length_append, List.length_singleton, List.range_succ, List.map_append, List.map_singleton, e1]
  congr 1
  exact List.map_congr_left fun k hk => by rw [highT_prefix _ _ _ (by have := List.mem_range.1 hk; omega)]

theorem own_block {w w' : World} {B e sz g n c : Nat} {xs : List Value} (h : w.ownsRow B e sz (.slice (some ⟨g, 0, none⟩) n c) n xs) (hb : w'.heap[g]? = w.heap[g]?) : w'.ownsRow B e sz (.slice (some ⟨g, 0, none⟩) n c) n xs := by
  obtain ⟨h1, h0 | ⟨g', cap, cur, hv, h2, h3, r⟩⟩ := h
  · exact ⟨h1, .inl h0⟩
  · simp only [Value.slice.injEq, Option.some.injEq, Addr.mk.injEq] at hv
    obtain ⟨⟨rfl, _⟩, _, rfl⟩ := hv
    exact ⟨h1, .inr ⟨g, c, cur, rfl, h2, hb.trans h3, r⟩⟩

/-- A field of a struct in memory holds a slice that the call owns. -/
structure Half (w : World) (BB bt off e g c : Nat) (xs : List Value) : Prop where
  cell : w.cell? ⟨bt, off, none⟩ = some (.slice (some ⟨g, 0, none⟩) xs.length c)
  fz : w.frozen? ⟨bt, off, none⟩ = false
  own : w.ownsRow BB e 1 (.slice (some ⟨g, 0, none⟩) xs.length c) xs.length xs
  ne : g ≠ bt
  lo : BB ≤ bt
theorem Half.glt {w : World} {BB bt off e g c : Nat} {xs : List Value} (h : Half w BB bt off e g c xs) : BB ≤ g ∧ g < w.heap.size := h.own.lt g rfl
theorem Half.blt {w : World} {BB bt off e g c : Nat} {xs : List Value} (h : Half w BB bt off e g c xs) : bt < w.heap.size := World.block_lt_of_cell? w _ h.cell
theorem Half.blocks {w w' : World} {BB bt off e g c : Nat} {xs : List Value} (h : Half w BB bt off e g c xs) (h1 : w'.heap[bt]? = w.heap[bt]?) (h2 : w'.heap[g]? = w.heap[g]?) : Half w' BB bt off e g c xs :=
  ⟨(World.cell?_of_block (a := ⟨bt, off, none⟩) h1).trans h.cell, (World.frozen?_of_block (a := ⟨bt, off, none⟩) h1).trans h.fz, own_block h.own h2, h.ne, h.lo⟩
theorem Half.keepB {w w' : World} {BB bt off e g c : Nat} {xs : List Value} (h : Half w BB bt off e g c xs) (q : B w w') : Half w' BB bt off e g c xs :=
  h.blocks (q.below.block _ h.blt) (q.below.block _ h.glt.2)
theorem Half.grown {w w' : World} {BB bt off e g c g2 : Nat} {xs : List Value} (h : Half w BB bt off e g c xs) (q : w.grownBy w' (some g2)) (hg : g ≠ g2) (hb : bt ≠ g2) : Half w' BB bt off e g c xs :=
  h.blocks (q.block _ h.blt (by simpa using hb)) (q.block _ h.glt.2 (by simpa using hg))
theorem Half.other {w : World} {BB bt off e g c : Nat} {xs : List Value} (h : Half w BB bt off e g c xs) (off2 : Nat) (hne : off2 ≠ off) (v : Value) : Half (w.setCell ⟨bt, off2, none⟩ v) BB bt off e g c xs :=
  ⟨(World.cell?_setCell_other w ⟨bt, off2, none⟩ ⟨bt, off, none⟩ v (fun e => hne (congrArg Addr.off e))).trans h.cell, (World.frozen?_setCell w _ _ v).trans h.fz, own_block h.own (Below.heap_setCell w ⟨bt, off2, none⟩ v g h.ne), h.ne, h.lo⟩
/-- It has grown, and the field holds it. -/
theorem Half.put {w : World} {BB bt off e g c : Nat} {xs : List Value} (h : w.ownsRow BB e 1 (.slice (some ⟨g, 0, none⟩) xs.length c) xs.length xs) {u : Value} (hc : w.cell? ⟨bt, off, none⟩ = some u) (hf : w.frozen? ⟨bt, off, none⟩ = false) (hne : g ≠ bt) (hlo : BB ≤ bt) :
    Half (w.setCell ⟨bt, off, none⟩ (.slice (some ⟨g, 0, none⟩) xs.length c)) BB bt off e g c xs :=
  ⟨World.cell?_setCell_same w ⟨bt, off, none⟩ _ hc, (World.frozen?_setCell w _ _ _).trans hf, own_block h (Below.heap_setCell w ⟨bt, off, none⟩ _ g hne), hne, hlo⟩

theorem alloc_size (w : World) (o : Obj) : (w.alloc o).heap.size = w.heap.size + 1 := by
  show (w.heap.push o).size = _
  simp
/-- A table of no slices, just made: two rows of one nought, the struct that holds them. -/
theorem table_start (W : World) (BB e t : Nat) (hB : BB ≤ W.heap.size) :
    Half (((W.alloc (.cells #[.int .i64 0] e)).alloc (.cells #[.int .i64 0] e)).alloc (.cells #[.slice (some ⟨W.heap.size, 0, none⟩) 1 1, .slice (some ⟨W.heap.size + 1, 0, none⟩) 1 1] t)) BB (W.heap.size + 1 + 1) 0 e W.heap.size 1 (lowCells []) ∧
    Half (((W.alloc (.cells #[.int .i64 0] e)).alloc (.cells #[.int .i64 0] e)).alloc (.cells #[.slice (some ⟨W.heap.size, 0, none⟩) 1 1, .slice (some ⟨W.heap.size + 1, 0, none⟩) 1 1] t)) BB (W.heap.size + 1 + 1) 1 e (W.heap.size + 1) 1 (highCells []) := by
  have o1 := (World.ownsRow_lit W #[.int .i64 0] 1 (base := BB) (e := e) (size := 1) hB (by decide) rfl).alloc (.cells #[.int .i64 0] e)
  have o2 := World.ownsRow_lit (W.alloc (.cells #[.int .i64 0] e)) #[.int .i64 0] 1 (base := BB) (e := e) (size := 1) (by rw [alloc_size]; omega) (by decide) rfl
  rw [alloc_size] at o2
  have hs : ((W.alloc (.cells #[.int .i64 0] e)).alloc (.cells #[.int .i64 0] e)).heap.size = W.heap.size + 1 + 1 := by rw [alloc_size, alloc_size]
  generalize (W.alloc (.cells #[.int .i64 0] e)).alloc (.cells #[.int .i64 0] e) = W3 at *
  have c := fun (k : Nat) => World.cell?_alloc_new W3 #[.slice (some ⟨W.heap.size, 0, none⟩) 1 1, .slice (some ⟨W.heap.size + 1, 0, none⟩) 1 1] t k
  have f := fun (k : Nat) => World.frozen?_alloc_new W3 #[.slice (some ⟨W.heap.size, 0, none⟩) 1 1, .slice (some ⟨W.heap.size + 1, 0, none⟩) 1 1] t k
  rw [hs] at c f
  exact ⟨⟨c 0, f 0, o1.alloc _, by omega, by omega⟩, ⟨c 1, f 1, o2.alloc _, by omega, by omega⟩⟩

/-- A table: sums of bounds lie there. -/
def RTab (w : World) (p : Value) (L : List (Int × Int)) : Prop :=
  ∃ b aL cL aH cH, p = .pointer (some ⟨b, 0, none⟩) ∧ w.cell? ⟨b, 0, none⟩ = some (.slice (some aL) (L.length + 1) cL) ∧ w.cell? ⟨b, 1, none⟩ = some (.slice (some aH) (L.length + 1) cH) ∧
    (∀ k, k ≤ L.length → w.cell? (aL.add k) = some (.int .i64 (lowT L k))) ∧ (∀ k, k ≤ L.length → w.cell? (aH.add k) = some (.int .i64 (highT L k)))
theorem RTab.keepB {w w' : World} {p : Value} {L : List (Int × Int)} (h : RTab w p L) (q : B w w') : RTab w' p L := by
  obtain ⟨b, aL, cL, aH, cH, h0, h1, h2, h3, h4⟩ := h
  exact ⟨b, aL, cL, aH, cH, h0, q.keep h1, q.keep h2, fun k hk => q.keep (h3 k hk), fun k hk => q.keep (h4 k hk)⟩
theorem rtab_of {w : World} {BB bt e g1 c1 g2 c2 : Nat} {L : List (Int × Int)} (h1 : Half w BB bt 0 e g1 c1 (lowCells L)) (h2 : Half w BB bt 1 e g2 c2 (highCells L)) : RTab w (.pointer (some ⟨bt, 0, none⟩)) L := by
  refine ⟨bt, ⟨g1, 0, none⟩, c1, ⟨g2, 0, none⟩, c2, rfl, ?_, ?_, ?_, ?_⟩
  · have := h1.cell; rwa [lowCells_len] at this
  · have := h2.cell; rwa [highCells_len] at this
  · intro k hk
    exact h1.own.cells rfl k _ (lowCells_get L k hk)
  · intro k hk
    exact h2.own.cells rfl k _ (highCells_get L k hk)
theorem rtab_held {w : World} {BB bt e g1 c1 g2 c2 : Nat} {L : List (Int × Int)} (h1 : Half w BB bt 0 e g1 c1 (lowCells L)) (h2 : Half w BB bt 1 e g2 c2 (highCells L)) : Held (fun w => RTab w (.pointer (some ⟨bt, 0, none⟩)) L) BB w.heap.size w := by
  have b1 := h1.glt
  have b2 := h2.glt
  have b3 := h1.blt
  have b4 := h1.lo
  have main : ∀ w' : World, (∀ i, BB ≤ i → i < w.heap.size → w'.heap[i]? = w.heap[i]?) → RTab w' (.pointer (some ⟨bt, 0, none⟩)) L := fun w' hb =>
    rtab_of (h1.blocks (hb bt b4 b3) (hb g1 b1.1 b1.2)) (h2.blocks (hb bt b4 b3) (hb g2 b2.1 b2.2))
  exact ⟨main w fun _ _ _ => rfl, Nat.le_refl _, main⟩

/-- The nearest number of slices. -/
def nearI (n : Nat) (i : Int) : Nat := (min (max i 0) (n : Int)).toNat
theorem nearI_le (n : Nat) (i : Int) : nearI n i ≤ n := by unfold nearI; omega
theorem nearI_eq (n : Nat) (i : Int) : min (max i 0) (n : Int) = (nearI n i : Int) := by unfold nearI; omega
theorem nearI_of (n k : Nat) (h : k ≤ n) : nearI n (k : Int) = k := by unfold nearI; omega
end Go.Proofs.Ytkiepmfknbbeaaa
