/-
  How tables lie in memory; a row that a struct's field holds and that grows. No program is named here; Layer 4: the code's areas, the bounds of a slice, a sum that is looked up; Two rows of sums that a struct's fields hold and that grow, one behind the other: from no row on. No program is named here; Regions that draw their order and end by changing what they have read ('t.l = append(t.l, f(t.l[n]))'): one operation is the gate; ahead of it a condition S holds, behind it nothing is asked. One order is walked. No program is named here; Regions that draw their order, of which two operations may come up in either order (two new blocks, say): both ways are walked. Up to the gate a condition S holds. No program is named here; Contracts of layer 3: which shapes may be.
-/
import Derived.Lib.MinMax
import Derived.OwnWalk
import Derived.Laws.OwnMore
import Derived.Deep.AppendLies
import Derived.Test.YtglniapfnhedoaaY1
import Derived.Test.YtglniapfnhedoaaY2
namespace Go.Proofs.Ytglniapfnhedoaa
open Go.RowKit
/-- The cells of the sums of bounds: the lower ones, the upper ones. -/
def lowCells (M : List (Int × Int)) : List Value := (List.range (M.length + 1)).map fun k => Value.int .i64 (lowT M k)
def highCells (M : List (Int × Int)) : List Value := (List.range (M.length + 1)).map fun k => Value.int .i64 (highT M k)
theorem lowCells_len (M : List (Int × Int)) : (lowCells M).length = M.length + 1 := by simp [lowCells]
theorem highCells_len (M : List (Int × Int)) : (highCells M).length = M.length + 1 := by simp [highCells]
theorem lowCells_get (M : List (Int × Int)) (k : Nat) (h : k ≤ M.length) : (lowCells M)[k]? = some (.int .i64 (lowT M k)) := by
  unfold lowCells
  rw [List.getElem?_map, List.getElem?_range (by omega)]
  rfl
theorem highCells_get (M : List (Int × Int)) (k : Nat) (h : k ≤ M.length) : (highCells M)[k]? = some (.int .i64 (highT M k)) := by
  unfold highCells
  rw [List.getElem?_map, List.getElem?_range (by omega)]
  rfl
theorem lowT_prefix (M : List (Int × Int)) (x : Int × Int) (k : Nat) (h : k ≤ M.length) : lowT (M ++ [x]) k = lowT M k := lowT_left M [x] k h
theorem highT_prefix (M : List (Int × Int)) (x : Int × Int) (k : Nat) (h : k ≤ M.length) : highT (M ++ [x]) k = highT M k := by
  unfold highT
  rw [List.take_append_of_le_length h]
theorem lowCells_snoc (M : List (Int × Int)) (x : Int × Int) : lowCells (M ++ [x]) = lowCells M ++ [.int .i64 (lowT M M.length + x.1)] := by
  have e1 : lowT (M ++ [x]) (M.length + 1) = lowT M M.length + x.1 := by
    rw [lowT_succ _ _ x (by simp), lowT_prefix _ _ _ (Nat.le_refl _)]
  unfold lowCells
  rw [List.length_append, List.length_singleton, List.range_succ, List.map_append, List.map_singleton, e1]
  congr 1
  exact List.map_congr_left fun k hk => by rw [lowT_prefix _ _ _ (by have := List.mem_range.1 hk; omega)]
theorem highCells_snoc (M : List (Int × Int)) (x : Int × Int) : highCells (M ++ [x]) = highCells M ++ [.int .i64 (highT M M.length + x.2)] := by
  have e1 : highT (M ++ [x]) (M.length + 1) = highT M M.length + x.2 := by
    rw [highT_succ _ _ x (by simp), highT_prefix _ _ _ (Nat.le_refl _)]
  unfold highCells
  rw [List.length_append, List.length_singleton, List.range_succ, List.map_append, List.map_singleton, e1]
  congr 1
  exact List.map_congr_left fun k hk => by rw [highT_prefix _ _ _ (by have := List.mem_range.1 hk; omega)]
theorem own_block {w w' : World} {B e sz g n c : Nat} {xs : List Value} (h : w.ownsRow B e sz (.slice (some ⟨g, 0, none⟩) n c) n xs) (hb : w'.heap[g]? = w.heap[g]?) : w'.ownsRow B e sz (.slice (some ⟨g, 0, none⟩) n c) n xs := by
  obtain ⟨h1, h0 | ⟨g', cap, cur, hv, h2, h3, r⟩⟩ := h
  · exact ⟨h1, .inl h0⟩
  · simp only [Value.slice.injEq, Option.some.injEq, Addr.mk.injEq] at hv
    obtain ⟨⟨rfl, _⟩, _, rfl⟩ := hv
    exact ⟨h1, .inr ⟨g, c, cur, rfl, h2, hb.trans h3, r⟩⟩
/-- A field of a struct in memory holds a slice that the call owns. -/
structure Half (w : World) (BB bt off e g c : Nat) (xs : List Value) : Prop where
  cell : w.cell? ⟨bt, off, none⟩ = some (.slice (some ⟨g, 0, none⟩) xs.length c)
  fz : w.frozen? ⟨bt, off, none⟩ = false
  own : w.ownsRow BB e 1 (.slice (some ⟨g, 0, none⟩) xs.length c) xs.length xs
  ne : g ≠ bt
  lo : BB ≤ bt
theorem Half.glt {w : World} {BB bt off e g c : Nat} {xs : List Value} (h : Half w BB bt off e g c xs) : BB ≤ g ∧ g < w.heap.size := h.own.lt g rfl
theorem Half.blt {w : World} {BB bt off e g c : Nat} {xs : List Value} (h : Half w BB bt off e g c xs) : bt < w.heap.size := World.block_lt_of_cell? w _ h.cell
theorem Half.blocks {w w' : World} {BB bt off e g c : Nat} {xs : List Value} (h : Half w BB bt off e g c xs) (h1 : w'.heap[bt]? = w.heap[bt]?) (h2 : w'.heap[g]? = w.heap[g]?) : Half w' BB bt off e g c xs :=
  ⟨(World.cell?_of_block (a := ⟨bt, off, none⟩) h1).trans h.cell, (World.frozen?_of_block (a := ⟨bt, off, none⟩) h1).trans h.fz, own_block h.own h2, h.ne, h.lo⟩
theorem Half.keepB {w w' : World} {BB bt off e g c : Nat} {xs : List Value} (h : Half w BB bt off e g c xs) (q : B w w') : Half w' BB bt off e g c xs :=
  h.blocks (q.below.block _ h.blt) (q.below.block _ h.glt.2)
theorem Half.grown {w w' : World} {BB bt off e g c g2 : Nat} {xs : List Value} (h : Half w BB bt off e g c xs) (q : w.grownBy w' (some g2)) (hg : g ≠ g2) (hb : bt ≠ g2) : Half w' BB bt off e g c xs :=
  h.blocks (q.block _ h.blt (by simpa using hb)) (q.block _ h.glt.2 (by simpa using hg))
theorem Half.other {w : World} {BB bt off e g c : Nat} {xs : List Value} (h : Half w BB bt off e g c xs) (off2 : Nat) (hne : off2 ≠ off) (v : Value) : Half (w.setCell ⟨bt, off2, none⟩ v) BB bt off e g c xs :=
  ⟨(World.cell?_setCell_other w ⟨bt, off2, none⟩ ⟨bt, off, none⟩ v (fun e => hne (congrArg Addr.off e))).trans h.cell, (World.frozen?_setCell w _ _ v).trans h.fz, own_block h.own (Below.heap_setCell w ⟨bt, off2, none⟩ v g h.ne), h.ne, h.lo⟩
/-- It has grown, and the field holds it. -/
theorem Half.put {w : World} {BB bt off e g c : Nat} {xs : List Value} (h : w.ownsRow BB e 1 (.slice (some ⟨g, 0, none⟩) xs.length c) xs.length xs) {u : Value} (hc : w.cell? ⟨bt, off, none⟩ = some u) (hf : w.frozen? ⟨bt, off, none⟩ = false) (hne : g ≠ bt) (hlo : BB ≤ bt) :
    Half (w.setCell ⟨bt, off, none⟩ (.slice (some ⟨g, 0, none⟩) xs.length c)) BB bt off e g c xs :=
  ⟨World.cell?_setCell_same w ⟨bt, off, none⟩ _ hc, (World.frozen?_setCell w _ _ _).trans hf, own_block h (Below.heap_setCell w ⟨bt, off, none⟩ _ g hne), hne, hlo⟩
theorem alloc_size (w : World) (o : Obj) : (w.alloc o).heap.size = w.heap.size + 1 := by
  show (w.heap.push o).size = _
  simp
/-- A table of no slices, just made: two rows of one nought, the struct that holds them. -/
theorem table_start (W : World) (BB e t : Nat) (hB : BB ≤ W.heap.size) :
    Half (((W.alloc (.cells #[.int .i64 0] e)).alloc (.cells #[.int .i64 0] e)).alloc (.cells #[.slice (some ⟨W.heap.size, 0, none⟩) 1 1, .slice (some ⟨W.heap.size + 1, 0, none⟩) 1 1] t)) BB (W.heap.size + 1 + 1) 0 e W.heap.size 1 (lowCells []) ∧
    Half (((W.alloc (.cells #[.int .i64 0] e)).alloc (.cells #[.int .i64 0] e)).alloc (.cells #[.slice (some ⟨W.heap.size, 0, none⟩) 1 1, .slice (some ⟨W.heap.size + 1, 0, none⟩) 1 1] t)) BB (W.heap.size + 1 + 1) 1 e (W.heap.size + 1) 1 (highCells []) := by
  have o1 := (World.ownsRow_lit W #[.int .i64 0] 1 (base := BB) (e := e) (size := 1) hB (by decide) rfl).alloc (.cells #[.int .i64 0] e)
  have o2 := World.ownsRow_lit (W.alloc (.cells #[.int .i64 0] e)) #[.int .i64 0] 1 (base := BB) (e := e) (size := 1) (by rw [alloc_size]; omega) (by decide) rfl
  rw [alloc_size] at o2
  have hs : ((W.alloc (.cells #[.int .i64 0] e)).alloc (.cells #[.int .i64 0] e)).heap.size = W.heap.size + 1 + 1 := by rw [alloc_size, alloc_size]
  generalize (W.alloc (.cells #[.int .i64 0] e)).alloc (.cells #[.int .i64 0] e) = W3 at *
  have c := fun (k : Nat) => World.cell?_alloc_new W3 #[.slice (some ⟨W.heap.size, 0, none⟩) 1 1, .slice (some ⟨W.heap.size + 1, 0, none⟩) 1 1] t k
  have f := fun (k : Nat) => World.frozen?_alloc_new W3 #[.slice (some ⟨W.heap.size, 0, none⟩) 1 1, .slice (some ⟨W.heap.size + 1, 0, none⟩) 1 1] t k
  rw [hs] at c f
  exact ⟨⟨c 0, f 0, o1.alloc _, by omega, by omega⟩, ⟨c 1, f 1, o2.alloc _, by omega, by omega⟩⟩
/-- A table: sums of bounds lie there. -/
def RTab (w : World) (p : Value) (L : List (Int × Int)) : Prop :=
  ∃ b aL cL aH cH, p = .pointer (some ⟨b, 0, none⟩) ∧ w.cell? ⟨b, 0, none⟩ = some (.slice (some aL) (L.length + 1) cL) ∧ w.cell? ⟨b, 1, none⟩ = some (.slice (some aH) (L.length + 1) cH) ∧
    (∀ k, k ≤ L.length → w.cell? (aL.add k) = some (.int .i64 (lowT L k))) ∧ (∀ k, k ≤ L.length → w.cell? (aH.add k) = some (.int .i64 (highT L k)))
theorem RTab.keepB {w w' : World} {p : Value} {L : List (Int × Int)} (h : RTab w p L) (q : B w w') : RTab w' p L := by
  obtain ⟨b, aL, cL, aH, cH, h0, h1, h2, h3, h4⟩ := h
  exact ⟨b, aL, cL, aH, cH, h0, q.keep h1, q.keep h2, fun k hk => q.keep (h3 k hk), fun k hk => q.keep (h4 k hk)⟩
theorem rtab_of {w : World} {BB bt e g1 c1 g2 c2 : Nat} {L : List (Int × Int)} (h1 : Half w BB bt 0 e g1 c1 (lowCells L)) (h2 : Half w BB bt 1 e g2 c2 (highCells L)) : RTab w (.pointer (some ⟨bt, 0, none⟩)) L := by
  refine ⟨bt, ⟨g1, 0, none⟩, c1, ⟨g2, 0, none⟩, c2, rfl, ?_, ?_, ?_, ?_⟩
  · have := h1.cell; rwa [lowCells_len] at this
  · have := h2.cell; rwa [highCells_len] at this
  · intro k hk
    exact h1.own.cells rfl k _ (lowCells_get L k hk)
  · intro k hk
    exact h2.own.cells rfl k _ (highCells_get L k hk)
theorem rtab_held {w : World} {BB bt e g1 c1 g2 c2 : Nat} {L : List (Int × Int)} (h1 : Half w BB bt 0 e g1 c1 (lowCells L)) (h2 : Half w BB bt 1 e g2 c2 (highCells L)) : Held (fun w => RTab w (.pointer (some ⟨bt, 0, none⟩)) L) BB w.heap.size w := by
  have b1 := h1.glt
  have b2 := h2.glt
  have b3 := h1.blt
  have b4 := h1.lo
  have main : ∀ w' : World, (∀ i, BB ≤ i → i < w.heap.size → w'.heap[i]? = w.heap[i]?) → RTab w' (.pointer (some ⟨bt, 0, none⟩)) L := fun w' hb =>
    rtab_of (h1.blocks (hb bt b4 b3) (hb g1 b1.1 b1.2)) (h2.blocks (hb bt b4 b3) (hb g2 b2.1 b2.2))
  exact ⟨main w fun _ _ _ => rfl, Nat.le_refl _, main⟩
/-- The nearest number of slices. -/
def nearI (n : Nat) (i : Int) : Nat := (min (max i 0) (n : Int)).toNat
theorem nearI_le (n : Nat) (i : Int) : nearI n i ≤ n := by unfold nearI; omega
theorem nearI_eq (n : Nat) (i : Int) : min (max i 0) (n : Int) = (nearI n i : Int) := by unfold nearI; omega
theorem nearI_of (n k : Nat) (h : k ≤ n) : nearI n (k : Int) = k := by unfold nearI; omega
end Go.Proofs.Ytglniapfnhedoaa

namespace Go.Proofs.Ytglniapfnhedoaa
open Go.RowKit
theorem mv_low (A : Int) (h0 : 0 ≤ A) (h1 : A ≤ 400000000) : mv A 333 424 false = A * 333 / 424 := by
  rw [mv, if_neg (by omega), mq_pos _ _ _ (by omega), mdQ, if_neg (by decide), qv_yes (by unfold I64; omega)]
theorem mv_high (A : Int) (h0 : 0 ≤ A) (h1 : A ≤ 400000000) : mv A 355 452 true = (A * 355 + 451) / 452 := by
  rw [mv, if_neg (by omega), mq_pos _ _ _ (by omega), mdQ, if_pos (by decide), qv_yes (by unfold I64; omega)]
  omega
theorem carea_any (r : Bool) (a b : Int) (up : Bool) (h0 : 0 ≤ a) (h1 : a ≤ 20000) (h2 : 0 ≤ b) (h3 : b ≤ 20000) (w : World) :
    Calls Try.prog 52 #[.bool r, .int .i64 a, .int .i64 b, .bool up] w fun e w' => e = .returned (.int .i64 (areaM r a b up)) ∧ B w w' := by
  have hm := mul_le h0 h1 h2 h3
  have hp := Int.mul_nonneg h0 h2
  have hs := mul_le h0 h1 h0 h1
  have hq := Int.mul_nonneg h0 h0
  unfold areaM
  cases r
  · have e1 : IntKind.i64.wrap (a * b) = a * b := wrapI (by omega) (by omega)
    go_enter Try.func52, Try.ntmps52
    go_wp2
    go_ret
    exact ⟨by simp, B.refl _⟩
  · obtain ⟨A, hA⟩ : ∃ A, a * a = A := ⟨_, rfl⟩
    rw [hA] at hs hq ⊢
    have e0 : IntKind.i64.wrap (a * a) = A := by rw [hA]; exact wrapI (by omega) (by omega)
    cases up
    · have c := fun w => muldiv_any A 333 424 false (by unfold I64; omega) (by decide) (by decide) w
      rw [mv_low A hq (by omega)] at c
      generalize A * 333 / 424 = X at *
      generalize me A 333 424 false = E at *
      clear hA hs hq hm hp
      go_enter Try.func52, Try.ntmps52
      go_wp2_with fail
      refine (c _).mono ?_
      rintro e w1 ⟨rfl, g⟩
      go_wp2
      go_ret
      exact ⟨by simp, g.q.b⟩
    · have c := fun w => muldiv_any A 355 452 true (by unfold I64; omega) (by decide) (by decide) w
      rw [mv_high A hq (by omega)] at c
      generalize (A * 355 + 451) / 452 = X at *
      generalize me A 355 452 true = E at *
      clear hA hs hq hm hp
      go_enter Try.func52, Try.ntmps52
      go_wp2_with fail
      refine (c _).mono ?_
      rintro e w1 ⟨rfl, g⟩
      go_wp2
      go_ret
      exact ⟨by simp, g.q.b⟩
theorem cbound_low (r : Bool) (h a0 b0 a1 b1 T : Int) (w : World) (hI : Sec.I ⟨r, h, a0, b0, a1, b1⟩) (h0 : 0 ≤ T) (h1 : T ≤ 60000) :
    Calls Try.prog 39 #[.agg #[.bool r, .int .i64 h, .int .i64 a0, .int .i64 b0, .int .i64 a1, .int .i64 b1], .int .i64 T, .bool false] w fun e w' =>
      e = .returned (.int .i64 (lowA ⟨r, h, a0, b0, a1, b1⟩ T)) ∧ B w w' := by
  have eT : IntKind.i64.wrap (T + 100) = T + 100 := wrapI (by omega) (by omega)
  have c1 := fun w => side_code r h a0 b0 a1 b1 T false w hI (by unfold I64; omega)
  have c2 := fun w => side_code r h a0 b0 a1 b1 (T + 100) false w hI (by unfold I64; omega)
  obtain ⟨q1, q2, q3, q4⟩ := sideOf_any ⟨r, h, a0, b0, a1, b1⟩ T false
  obtain ⟨q5, q6, q7, q8⟩ := sideOf_any ⟨r, h, a0, b0, a1, b1⟩ (T + 100) false
  have hX : lowA ⟨r, h, a0, b0, a1, b1⟩ T = areaM r (min (sideOf ⟨r, h, a0, b0, a1, b1⟩ T false).1 (sideOf ⟨r, h, a0, b0, a1, b1⟩ (T + 100) false).1) (min (sideOf ⟨r, h, a0, b0, a1, b1⟩ T false).2 (sideOf ⟨r, h, a0, b0, a1, b1⟩ (T + 100) false).2) false := rfl
  generalize lowA ⟨r, h, a0, b0, a1, b1⟩ T = X at *
  generalize (sideOf ⟨r, h, a0, b0, a1, b1⟩ T false).1 = p1 at *
  generalize (sideOf ⟨r, h, a0, b0, a1, b1⟩ T false).2 = p2 at *
  generalize (sideOf ⟨r, h, a0, b0, a1, b1⟩ (T + 100) false).1 = p3 at *
  generalize (sideOf ⟨r, h, a0, b0, a1, b1⟩ (T + 100) false).2 = p4 at *
  obtain ⟨m1, e1⟩ : ∃ m, min p1 p3 = m := ⟨_, rfl⟩
  obtain ⟨m2, e2⟩ : ∃ m, min p2 p4 = m := ⟨_, rfl⟩
  rw [e1, e2] at hX
  have c3 := fun w => carea_any r m1 m2 false (by omega) (by omega) (by omega) (by omega) w
  rw [← hX] at c3
  clear hX q1 q2 q3 q4 q5 q6 q7 q8 hI h0 h1
  go_enter Try.func39, Try.ntmps39
  go_wp2_with fail
  refine (c1 _).mono ?_
  rintro e w1 ⟨rfl, g⟩
  have z0 := g.keep (p := ⟨w.heap.size, 0, none⟩) (v := .bool r) (by simp [go_sem])
  have z1 := g.keep (p := ⟨w.heap.size, 1, none⟩) (v := .int .i64 h) (by simp [go_sem])
  have z2 := g.keep (p := ⟨w.heap.size, 2, none⟩) (v := .int .i64 a0) (by simp [go_sem])
  have z3 := g.keep (p := ⟨w.heap.size, 3, none⟩) (v := .int .i64 b0) (by simp [go_sem])
  have z4 := g.keep (p := ⟨w.heap.size, 4, none⟩) (v := .int .i64 a1) (by simp [go_sem])
  have z5 := g.keep (p := ⟨w.heap.size, 5, none⟩) (v := .int .i64 b1) (by simp [go_sem])
  replace g := ((B.refl w).alloc _ _).trans g
  go_wp2_with fail
  refine (c2 _).mono ?_
  rintro e w2 ⟨rfl, g2⟩
  replace z0 := g2.keep z0
  replace g := g.trans g2
  go_wp2_with fail
  refine (c3 _).mono ?_
  rintro e w3 ⟨rfl, g3⟩
  replace g := g.trans g3
  go_wp2
  go_ret
  exact ⟨rfl, g⟩
theorem cbound_high (r : Bool) (h a0 b0 a1 b1 T : Int) (w : World) (hI : Sec.I ⟨r, h, a0, b0, a1, b1⟩) (h0 : 0 ≤ T) (h1 : T ≤ 60000) :
    Calls Try.prog 39 #[.agg #[.bool r, .int .i64 h, .int .i64 a0, .int .i64 b0, .int .i64 a1, .int .i64 b1], .int .i64 T, .bool true] w fun e w' =>
      e = .returned (.int .i64 (highA ⟨r, h, a0, b0, a1, b1⟩ T)) ∧ B w w' := by
  have eT : IntKind.i64.wrap (T + 100) = T + 100 := wrapI (by omega) (by omega)
  have c1 := fun w => side_code r h a0 b0 a1 b1 T true w hI (by unfold I64; omega)
  have c2 := fun w => side_code r h a0 b0 a1 b1 (T + 100) true w hI (by unfold I64; omega)
  obtain ⟨q1, q2, q3, q4⟩ := sideOf_any ⟨r, h, a0, b0, a1, b1⟩ T true
  obtain ⟨q5, q6, q7, q8⟩ := sideOf_any ⟨r, h, a0, b0, a1, b1⟩ (T + 100) true
  have hX : highA ⟨r, h, a0, b0, a1, b1⟩ T = areaM r (max (sideOf ⟨r, h, a0, b0, a1, b1⟩ T true).1 (sideOf ⟨r, h, a0, b0, a1, b1⟩ (T + 100) true).1) (max (sideOf ⟨r, h, a0, b0, a1, b1⟩ T true).2 (sideOf ⟨r, h, a0, b0, a1, b1⟩ (T + 100) true).2) true := rfl
  generalize highA ⟨r, h, a0, b0, a1, b1⟩ T = X at *
  generalize (sideOf ⟨r, h, a0, b0, a1, b1⟩ T true).1 = p1 at *
  generalize (sideOf ⟨r, h, a0, b0, a1, b1⟩ T true).2 = p2 at *
  generalize (sideOf ⟨r, h, a0, b0, a1, b1⟩ (T + 100) true).1 = p3 at *
  generalize (sideOf ⟨r, h, a0, b0, a1, b1⟩ (T + 100) true).2 = p4 at *
  obtain ⟨m1, e1⟩ : ∃ m, max p1 p3 = m := ⟨_, rfl⟩
  obtain ⟨m2, e2⟩ : ∃ m, max p2 p4 = m := ⟨_, rfl⟩
  rw [e1, e2] at hX
  have c3 := fun w => carea_any r m1 m2 true (by omega) (by omega) (by omega) (by omega) w
  rw [← hX] at c3
  clear hX q1 q2 q3 q4 q5 q6 q7 q8 hI h0 h1
  go_enter Try.func39, Try.ntmps39
  go_wp2_with fail
  refine (c1 _).mono ?_
  rintro e w1 ⟨rfl, g⟩
  have z0 := g.keep (p := ⟨w.heap.size, 0, none⟩) (v := .bool r) (by simp [go_sem])
  have z1 := g.keep (p := ⟨w.heap.size, 1, none⟩) (v := .int .i64 h) (by simp [go_sem])
  have z2 := g.keep (p := ⟨w.heap.size, 2, none⟩) (v := .int .i64 a0) (by simp [go_sem])
  have z3 := g.keep (p := ⟨w.heap.size, 3, none⟩) (v := .int .i64 b0) (by simp [go_sem])
  have z4 := g.keep (p := ⟨w.heap.size, 4, none⟩) (v := .int .i64 a1) (by simp [go_sem])
  have z5 := g.keep (p := ⟨w.heap.size, 5, none⟩) (v := .int .i64 b1) (by simp [go_sem])
  replace g := ((B.refl w).alloc _ _).trans g
  go_wp2_with fail
  refine (c2 _).mono ?_
  rintro e w2 ⟨rfl, g2⟩
  replace z0 := g2.keep z0
  replace g := g.trans g2
  go_wp2_with fail
  refine (c3 _).mono ?_
  rintro e w3 ⟨rfl, g3⟩
  replace g := g.trans g3
  go_wp2
  go_ret
  exact ⟨rfl, g⟩
set_option maxHeartbeats 4000000 in
theorem cbounds_any (r : Bool) (h a0 b0 a1 b1 T : Int) (w : World) (hI : Sec.I ⟨r, h, a0, b0, a1, b1⟩) (h0 : 0 ≤ T) (h1 : T ≤ 60000) (hk : secOk ⟨r, h, a0, b0, a1, b1⟩ = true) :
    Calls Try.prog 23 #[.agg #[.bool r, .int .i64 h, .int .i64 a0, .int .i64 b0, .int .i64 a1, .int .i64 b1], .int .i64 T] w fun e w' =>
      e = .returned (.tuple #[.int .i64 (100 * lowA ⟨r, h, a0, b0, a1, b1⟩ T), .int .i64 (100 * highA ⟨r, h, a0, b0, a1, b1⟩ T)]) ∧ B w w' := by
  have c1 := fun w => cbound_low r h a0 b0 a1 b1 T w hI h0 h1
  have c2 := fun w => cbound_high r h a0 b0 a1 b1 T w hI h0 h1
  obtain ⟨x1, x2, x3, x4⟩ := slice_bounds hk T h0
  generalize lowA ⟨r, h, a0, b0, a1, b1⟩ T = X at *
  generalize highA ⟨r, h, a0, b0, a1, b1⟩ T = Y at *
  have e1 : IntKind.i64.wrap (100 * X) = 100 * X := wrapI (by omega) (by omega)
  have e2 : IntKind.i64.wrap (100 * Y) = 100 * Y := wrapI (by omega) (by omega)
  clear x1 x2 x3 x4 hI hk h0 h1
  go_enter Try.func23, Try.ntmps23
  go_wp2_with fail
  refine wp_region_noPanic ?_
  refine wp_region_seq (S := fun w' => w'.cell? ⟨w.heap.size, 0, none⟩ = some (.bool r) ∧ w'.cell? ⟨w.heap.size, 1, none⟩ = some (.int .i64 h) ∧ w'.cell? ⟨w.heap.size, 2, none⟩ = some (.int .i64 a0) ∧ w'.cell? ⟨w.heap.size, 3, none⟩ = some (.int .i64 b0) ∧ w'.cell? ⟨w.heap.size, 4, none⟩ = some (.int .i64 a1) ∧ w'.cell? ⟨w.heap.size, 5, none⟩ = some (.int .i64 b1) ∧ B w w') [(0, 0), (1, 0), (4, 0), (5, 0), (2, 2), (3, 0), (6, 2), (7, 0), (8, 0), (9, 0)] [0, 0, 3, 4, 0, 0, 52, 64, 79, 511] [0, 0, 3, 4, 0, 0, 48, 64, 8, 128] (by kernel_rfl) (by kernel_rfl) (fun _ _ _ _ _ h => h) ?_ (fun hH => ?_)
  · exact ⟨by simp [go_sem], by simp [go_sem], by simp [go_sem], by simp [go_sem], by simp [go_sem], by simp [go_sem], ((B.refl w).alloc _ _).drew⟩
  refine wpSeq_take (d := 6) (v := ?_) rfl rfl (by kernel_rfl) (fun w hS => ?_) ?_
  rotate_left
  · go_simp <;> with_reducible rfl
  dsimp only [List.set_cons_zero, List.set_cons_succ]
  refine wpSeq_take (d := 7) (v := ?_) rfl rfl (by kernel_rfl) (fun w hS => ?_) ?_
  rotate_left
  · go_simp <;> with_reducible rfl
  dsimp only [List.set_cons_zero, List.set_cons_succ]
  refine wpSeq_take (d := 10) (v := ?_) rfl rfl (by kernel_rfl) (fun w hS => ?_) ?_
  rotate_left
  · go_simp <;> with_reducible rfl
  dsimp only [List.set_cons_zero, List.set_cons_succ]
  refine wpSeq_take (d := 11) (v := ?_) rfl rfl (by kernel_rfl) (fun w hS => ?_) ?_
  rotate_left
  · go_simp <;> with_reducible rfl
  dsimp only [List.set_cons_zero, List.set_cons_succ]
  refine wpSeq_call rfl (by kernel_rfl) (fun K hK => ?_)
  go_simp
  (with_reducible refine (c1 _).mono ?_)
  rintro e w' ⟨rfl, hq⟩
  refine hK.out _ _ ?_ (fun hH => ?_)
  · exact ⟨hq.keep hH.1, hq.keep hH.2.1, hq.keep hH.2.2.1, hq.keep hH.2.2.2.1, hq.keep hH.2.2.2.2.1, hq.keep hH.2.2.2.2.2.1, hH.2.2.2.2.2.2.trans hq⟩
  clear hK
  refine wpSeq_take (d := 9) (v := ?_) rfl rfl (by kernel_rfl) (fun w hS => ?_) ?_
  rotate_left
  · go_simp <;> with_reducible rfl
  dsimp only [List.set_cons_zero, List.set_cons_succ]
  refine wpSeq_call rfl (by kernel_rfl) (fun K hK => ?_)
  go_simp
  (with_reducible refine (c2 _).mono ?_)
  rintro e w' ⟨rfl, hq⟩
  refine hK.out _ _ ?_ (fun hH => ?_)
  · exact ⟨hq.keep hH.1, hq.keep hH.2.1, hq.keep hH.2.2.1, hq.keep hH.2.2.2.1, hq.keep hH.2.2.2.2.1, hq.keep hH.2.2.2.2.2.1, hH.2.2.2.2.2.2.trans hq⟩
  clear hK
  refine wpSeq_take (d := 13) (v := ?_) rfl rfl (by kernel_rfl) (fun w hS => ?_) ?_
  rotate_left
  · go_simp <;> with_reducible rfl
  dsimp only [List.set_cons_zero, List.set_cons_succ]
  refine wpSeq_take (d := 4) (v := ?_) rfl rfl (by kernel_rfl) (fun w hS => ?_) ?_
  rotate_left
  · go_simp <;> with_reducible rfl
  dsimp only [List.set_cons_zero, List.set_cons_succ]
  refine wpSeq_take (d := 5) (v := ?_) rfl rfl (by kernel_rfl) (fun w hS => ?_) ?_
  rotate_left
  · go_simp <;> with_reducible rfl
  dsimp only [List.set_cons_zero, List.set_cons_succ]
  refine wpSeq_done ?_
  refine NoPanic.normal ?_
  go_wp2
  go_ret2
  exact ⟨rfl, hH.2.2.2.2.2.2⟩
/-- The sum ahead of a slice, of a row of sums. -/
theorem below_any (f : Nat → Int) (hf : f 0 = 0) (a : Addr) (n c : Nat) (h1 : 1 ≤ n) (h2 : n ≤ 600) (i : Int) (w : World) (hx : ∀ k, k < n → w.cell? (a.add k) = some (.int .i64 (f (k + 1)))) :
    Calls Try.prog 55 #[.slice (some a) n c, .int .i64 i] w fun e w' => e = .returned (.int .i64 (f (nearI n i))) ∧ B w w' := by
  obtain ⟨m, e1⟩ : ∃ m, min i (n : Int) = m := ⟨_, rfl⟩
  by_cases hi : i ≤ 0
  · have hm : decide (m ≤ 0) = true := decide_eq_true (by omega)
    have hn : nearI n i = 0 := by unfold nearI; omega
    rw [hn, hf]
    clear hx hn
    go_enter Try.func55, Try.ntmps55
    go_wp2
    go_ret
    exact ⟨rfl, B.refl _⟩
  · have hm : decide (m ≤ 0) = false := decide_eq_false (by omega)
    obtain ⟨k, hk⟩ : ∃ k : Nat, m = (k : Int) + 1 := ⟨(m - 1).toNat, by omega⟩
    have hn : nearI n i = k + 1 := by unfold nearI; omega
    have hkn : k < n := by omega
    have e2 : IntKind.i64.wrap (m - 1) = (k : Int) := by rw [show m - 1 = (k : Int) by omega]; exact wrapI (by omega) (by omega)
    have hkI : (k : Int) < (n : Int) := by omega
    have hc := hx k hkn
    rw [hn]
    generalize f (k + 1) = X at *
    clear hx hn hk hi
    go_enter Try.func55, Try.ntmps55
    go_wp2
    go_ret
    exact ⟨rfl, B.refl _⟩
end Go.Proofs.Ytglniapfnhedoaa

namespace Go.Proofs.Ytglniapfnhedoaa
open Go.RowKit
/-- Sums up to each slice: the lower ones, the upper ones. -/
def lowL (M : List (Int × Int)) : List Value := (List.range M.length).map fun k => Value.int .i64 (lowT M (k + 1))
def highL (M : List (Int × Int)) : List Value := (List.range M.length).map fun k => Value.int .i64 (highT M (k + 1))
theorem lowL_len (M : List (Int × Int)) : (lowL M).length = M.length := by simp [lowL]
theorem highL_len (M : List (Int × Int)) : (highL M).length = M.length := by simp [highL]
theorem lowL_get (M : List (Int × Int)) (k : Nat) (h : k < M.length) : (lowL M)[k]? = some (.int .i64 (lowT M (k + 1))) := by
  unfold lowL
  rw [List.getElem?_map, List.getElem?_range h]
  rfl
theorem highL_get (M : List (Int × Int)) (k : Nat) (h : k < M.length) : (highL M)[k]? = some (.int .i64 (highT M (k + 1))) := by
  unfold highL
  rw [List.getElem?_map, List.getElem?_range h]
  rfl
theorem lowT_snoc (M : List (Int × Int)) (x : Int × Int) : lowT (M ++ [x]) (M.length + 1) = lowT M M.length + x.1 := by
  rw [lowT_succ _ _ x (by simp), lowT_prefix _ _ _ (Nat.le_refl _)]
theorem highT_snoc (M : List (Int × Int)) (x : Int × Int) : highT (M ++ [x]) (M.length + 1) = highT M M.length + x.2 := by
  rw [highT_succ _ _ x (by simp), highT_prefix _ _ _ (Nat.le_refl _)]
theorem lowL_snoc (M : List (Int × Int)) (x : Int × Int) : lowL (M ++ [x]) = lowL M ++ [.int .i64 (lowT M M.length + x.1)] := by
  unfold lowL
  rw [List.length_append, List.length_singleton, List.range_succ, List.map_append, List.map_singleton, lowT_snoc]
  congr 1
  exact List.map_congr_left fun k hk => by rw [lowT_prefix _ _ _ (by have := List.mem_range.1 hk; omega)]
theorem highL_snoc (M : List (Int × Int)) (x : Int × Int) : highL (M ++ [x]) = highL M ++ [.int .i64 (highT M M.length + x.2)] := by
  unfold highL
  rw [List.length_append, List.length_singleton, List.range_succ, List.map_append, List.map_singleton, highT_snoc]
  congr 1
  exact List.map_congr_left fun k hk => by rw [highT_prefix _ _ _ (by have := List.mem_range.1 hk; omega)]
theorem own_keep {w w' : World} {B e sz n : Nat} {v : Value} {xs : List Value} (h : w.ownsRow B e sz v n xs) (hb : ∀ g, v.ownBlock = some g → w'.heap[g]? = w.heap[g]?) : w'.ownsRow B e sz v n xs := by
  obtain ⟨h1, h0 | ⟨g, cap, cur, rfl, h2, h3, r⟩⟩ := h
  · exact ⟨h1, .inl h0⟩
  · exact ⟨h1, .inr ⟨g, cap, cur, rfl, h2, (hb g rfl).trans h3, r⟩⟩
theorem cell_set {w : World} {b : Nat} {cs : Array Value} {t : TypeId} {fz : Nat × Nat} (h : w.heap[b]? = some (.cells cs t fz)) (k : Nat) (v : Value) : (w.setCell ⟨b, k, none⟩ v).heap[b]? = some (.cells (cs.setIfInBounds k v) t fz) := by
  simp [World.setCell, Array.getElem?_modify, h]
/-- A field of a struct in memory holds a slice that the call owns, or none. -/
structure Fld (w : World) (BB bt off e : Nat) (v : Value) (xs : List Value) : Prop where
  cell : w.cell? ⟨bt, off, none⟩ = some v
  fz : w.frozen? ⟨bt, off, none⟩ = false
  own : w.ownsRow BB e 1 v xs.length xs
  ne : v.ownBlock ≠ some bt
  lo : BB ≤ bt
  ob : ∃ cs t, w.heap[bt]? = some (.cells cs t (0, 0))
theorem Fld.blt {w : World} {BB bt off e : Nat} {v : Value} {xs : List Value} (h : Fld w BB bt off e v xs) : bt < w.heap.size := World.block_lt_of_cell? w _ h.cell
theorem Fld.blocks {w w' : World} {BB bt off e : Nat} {v : Value} {xs : List Value} (h : Fld w BB bt off e v xs) (h1 : w'.heap[bt]? = w.heap[bt]?) (h2 : ∀ g, v.ownBlock = some g → w'.heap[g]? = w.heap[g]?) : Fld w' BB bt off e v xs :=
  ⟨(World.cell?_of_block (a := ⟨bt, off, none⟩) h1).trans h.cell, (World.frozen?_of_block (a := ⟨bt, off, none⟩) h1).trans h.fz, own_keep h.own h2, h.ne, h.lo, by obtain ⟨cs, t, ho⟩ := h.ob; exact ⟨cs, t, h1.trans ho⟩⟩
theorem Fld.keepB {w w' : World} {BB bt off e : Nat} {v : Value} {xs : List Value} (h : Fld w BB bt off e v xs) (q : B w w') : Fld w' BB bt off e v xs :=
  h.blocks (q.below.block _ h.blt) (fun g hg => q.below.block _ (h.own.lt g hg).2)
theorem Fld.grown {w w' : World} {BB bt off e : Nat} {v : Value} {xs : List Value} {row : Option Nat} (h : Fld w BB bt off e v xs) (q : w.grownBy w' row) (hb : some bt ≠ row) (hg : ∀ g, v.ownBlock = some g → some g ≠ row) : Fld w' BB bt off e v xs :=
  h.blocks (q.block _ h.blt hb) (fun g hg' => q.block _ (h.own.lt g hg').2 (hg g hg'))
theorem Fld.other {w : World} {BB bt off e : Nat} {v : Value} {xs : List Value} (h : Fld w BB bt off e v xs) (off2 : Nat) (hne : off2 ≠ off) (u : Value) : Fld (w.setCell ⟨bt, off2, none⟩ u) BB bt off e v xs :=
  ⟨(World.cell?_setCell_other w ⟨bt, off2, none⟩ ⟨bt, off, none⟩ u (fun e => hne (congrArg Addr.off e))).trans h.cell, (World.frozen?_setCell w _ _ u).trans h.fz, own_keep h.own (fun g hg => Below.heap_setCell w ⟨bt, off2, none⟩ u g (fun e => h.ne (by rw [hg, e]))), h.ne, h.lo, by obtain ⟨cs, t, ho⟩ := h.ob; exact ⟨_, t, cell_set ho off2 u⟩⟩
/-- It has grown, and the field holds it. -/
theorem Fld.put {w : World} {BB bt off e n : Nat} {v : Value} {xs : List Value} (hl : xs.length = n) (h : w.ownsRow BB e 1 v n xs) {u : Value} (hc : w.cell? ⟨bt, off, none⟩ = some u) (hf : w.frozen? ⟨bt, off, none⟩ = false) (hne : v.ownBlock ≠ some bt) (hlo : BB ≤ bt) (ho : ∃ cs t, w.heap[bt]? = some (.cells cs t (0, 0))) :
    Fld (w.setCell ⟨bt, off, none⟩ v) BB bt off e v xs :=
  ⟨World.cell?_setCell_same w ⟨bt, off, none⟩ _ hc, (World.frozen?_setCell w _ _ _).trans hf, hl ▸ own_keep h (fun g hg => Below.heap_setCell w ⟨bt, off, none⟩ _ g (fun e => hne (by rw [hg, e]))), hne, hlo, by obtain ⟨cs, t, ho⟩ := ho; exact ⟨_, t, cell_set ho off v⟩⟩
/-- Both fields: rows apart from one another, and from a block that is to stay (xb). -/
structure Two (w : World) (BB bt e : Nat) (v u : Value) (xs ys : List Value) (xb : Nat) : Prop where
  l : Fld w BB bt 1 e v xs
  h : Fld w BB bt 2 e u ys
  ap : ∀ g, v.ownBlock = some g → u.ownBlock ≠ some g
  xv : v.ownBlock ≠ some xb
  xu : u.ownBlock ≠ some xb
  xt : xb ≠ bt
theorem Two.keepB {w w' : World} {BB bt e xb : Nat} {v u : Value} {xs ys : List Value} (h : Two w BB bt e v u xs ys xb) (q : B w w') : Two w' BB bt e v u xs ys xb :=
  ⟨h.l.keepB q, h.h.keepB q, h.ap, h.xv, h.xu, h.xt⟩
/-- What is told of the rows behind the first append, behind both, behind both stores: the worlds one by one. -/
theorem two_first {W W1 wN : World} {BB bt e xb g1 : Nat} {v u : Value} {xs ys : List Value} (t : Two W BB bt e v u xs ys xb) (q : B W W1)
    (hg : W1.grownBy wN v.ownBlock) (hat : v.ownBlock = some g1 ∨ g1 = W1.heap.size) :
    wN.cell? ⟨bt, 1, none⟩ = some v ∧ wN.frozen? ⟨bt, 1, none⟩ = false ∧ g1 ≠ bt ∧ u.ownBlock ≠ some g1 ∧ Fld wN BB bt 2 e u ys ∧ BB ≤ wN.heap.size ∧ bt < wN.heap.size := by
  have t1 := t.keepB q
  have hb : some bt ≠ v.ownBlock := fun e => t.l.ne e.symm
  refine ⟨(World.cell?_of_block (a := ⟨bt, 1, none⟩) (hg.block bt t1.l.blt hb)).trans t1.l.cell, (World.frozen?_of_block (a := ⟨bt, 1, none⟩) (hg.block bt t1.l.blt hb)).trans t1.l.fz, ?_, ?_, ?_, ?_, ?_⟩
  · rcases hat with e | e
    · intro h; rw [h] at e; exact hb e.symm
    · have := t1.l.blt; omega
  · rcases hat with e | e
    · exact t.ap _ e
    · intro h
      have := (t1.h.own.lt _ h).2
      omega
  · exact t1.h.grown hg hb (fun g hg' e => t.ap g e.symm hg')
  · have := t1.l.blt; have := t.l.lo; have := hg.size; omega
  · have := t1.l.blt; have := hg.size; omega
theorem two_mid {wN W2 wM : World} {BB bt e g2 : Nat} {v u : Value} {ys : List Value} (f1 : wN.cell? ⟨bt, 1, none⟩ = some v) (f2 : wN.frozen? ⟨bt, 1, none⟩ = false) (f5 : Fld wN BB bt 2 e u ys) (q : B wN W2)
    (hg : W2.grownBy wM u.ownBlock) (hat : u.ownBlock = some g2 ∨ g2 = W2.heap.size) :
    wM.heap[bt]? = wN.heap[bt]? ∧ wM.cell? ⟨bt, 1, none⟩ = some v ∧ wM.frozen? ⟨bt, 1, none⟩ = false ∧ wM.cell? ⟨bt, 2, none⟩ = some u ∧ wM.frozen? ⟨bt, 2, none⟩ = false ∧ g2 ≠ bt := by
  have F5 := f5.keepB q
  have e1 : wM.heap[bt]? = wN.heap[bt]? := (hg.block bt F5.blt (fun e => f5.ne e.symm)).trans (q.below.block bt f5.blt)
  refine ⟨e1, (World.cell?_of_block (a := ⟨bt, 1, none⟩) e1).trans f1, (World.frozen?_of_block (a := ⟨bt, 1, none⟩) e1).trans f2, (World.cell?_of_block (a := ⟨bt, 2, none⟩) e1).trans f5.cell, (World.frozen?_of_block (a := ⟨bt, 2, none⟩) e1).trans f5.fz, ?_⟩
  rcases hat with e | e
  · intro h; rw [h] at e; exact f5.ne e
  · have := F5.blt; omega
theorem two_store {wM : World} {bt : Nat} {u : Value} (x1 : wM.cell? ⟨bt, 2, none⟩ = some u) (x2 : wM.frozen? ⟨bt, 2, none⟩ = false) (z : Value) :
    (wM.setCell ⟨bt, 1, none⟩ z).cell? ⟨bt, 2, none⟩ = some u ∧ (wM.setCell ⟨bt, 1, none⟩ z).frozen? ⟨bt, 2, none⟩ = false :=
  ⟨(World.cell?_setCell_other wM ⟨bt, 1, none⟩ ⟨bt, 2, none⟩ z (fun e => absurd (congrArg Addr.off e) (by show ¬ (1 = 2); omega))).trans x1, (World.frozen?_setCell wM _ _ _).trans x2⟩
theorem two_grow {W W1 wN W2 wM : World} {BB bt e xb n g1 c1 g2 c2 : Nat} {v u z y hv : Value} {xs ys : List Value} (t : Two W BB bt e v u xs ys xb) (hx : xs.length = n) (hy : ys.length = n) (q : B W W1)
    (ho : wN.ownsRow BB e 1 (.slice (some ⟨g1, 0, none⟩) (n + 1) c1) (n + 1) (xs ++ [z])) (hg : W1.grownBy wN v.ownBlock) (hat : v.ownBlock = some g1 ∨ g1 = W1.heap.size) (hlt : g1 < wN.heap.size) (qN : B wN W2)
    (ho2 : wM.ownsRow BB e 1 (.slice (some ⟨g2, 0, none⟩) (n + 1) c2) (n + 1) (ys ++ [y])) (hg2 : W2.grownBy wM u.ownBlock) (hat2 : u.ownBlock = some g2 ∨ g2 = W2.heap.size) (hxb : xb < W.heap.size) (hc : W.cell? ⟨bt, 0, none⟩ = some hv) :
    Two ((wM.setCell ⟨bt, 1, none⟩ (.slice (some ⟨g1, 0, none⟩) (n + 1) c1)).setCell ⟨bt, 2, none⟩ (.slice (some ⟨g2, 0, none⟩) (n + 1) c2)) BB bt e (.slice (some ⟨g1, 0, none⟩) (n + 1) c1) (.slice (some ⟨g2, 0, none⟩) (n + 1) c2) (xs ++ [z]) (ys ++ [y]) xb ∧
    ((wM.setCell ⟨bt, 1, none⟩ (.slice (some ⟨g1, 0, none⟩) (n + 1) c1)).setCell ⟨bt, 2, none⟩ (.slice (some ⟨g2, 0, none⟩) (n + 1) c2)).heap[xb]? = W.heap[xb]? ∧
    ((wM.setCell ⟨bt, 1, none⟩ (.slice (some ⟨g1, 0, none⟩) (n + 1) c1)).setCell ⟨bt, 2, none⟩ (.slice (some ⟨g2, 0, none⟩) (n + 1) c2)).cell? ⟨bt, 0, none⟩ = some hv ∧
    (∀ w0, w0.heap.size = BB → B w0 W → B w0 ((wM.setCell ⟨bt, 1, none⟩ (.slice (some ⟨g1, 0, none⟩) (n + 1) c1)).setCell ⟨bt, 2, none⟩ (.slice (some ⟨g2, 0, none⟩) (n + 1) c2))) := by
  obtain ⟨f1, f2, f3, f4, f5, f6, f7⟩ := two_first t q hg hat
  obtain ⟨e1, y1, y2, x1, x2, nb2⟩ := two_mid f1 f2 f5 qN hg2 hat2
  have t1 := t.keepB q
  have bl1 := hg2.block g1 (by have := qN.below.size; omega) (fun e => f4 e.symm)
  have e2 : wM.heap[g1]? = wN.heap[g1]? := bl1.trans (qN.below.block g1 hlt)
  have o1 : wM.ownsRow BB e 1 (.slice (some ⟨g1, 0, none⟩) (n + 1) c1) (n + 1) (xs ++ [z]) := own_keep ho (fun g hg => by cases hg; exact e2)
  have n12 : g1 ≠ g2 := by
    rcases hat2 with e | e
    · intro h; rw [h] at f4; exact f4 e
    · have := qN.below.size; omega
  have s1 := q.below.size
  have s2 := hg.size
  have s3 := qN.below.size
  have s4 := hg2.size
  have nx1 : g1 ≠ xb := by
    rcases hat with e | e
    · intro h; rw [h] at e; exact t.xv e
    · omega
  have nx2 : g2 ≠ xb := by
    rcases hat2 with e | e
    · intro h; rw [h] at e; exact t.xu e
    · omega
  have st := two_store x1 x2 (.slice (some ⟨g1, 0, none⟩) (n + 1) c1)
  obtain ⟨cs0, t0, ob0⟩ := t1.l.ob
  have obM : wM.heap[bt]? = some (.cells cs0 t0 (0, 0)) := e1.trans ((hg.block bt t1.l.blt (fun e => t.l.ne e.symm)).trans ob0)
  have A := Fld.put (off := 1) (by simp [hx]) o1 y1 y2 (show (Value.slice (some ⟨g1, 0, none⟩) (n + 1) c1).ownBlock ≠ some bt from fun e => f3 (Option.some.inj e)) t.l.lo ⟨cs0, t0, obM⟩
  have o2' : (wM.setCell ⟨bt, 1, none⟩ (.slice (some ⟨g1, 0, none⟩) (n + 1) c1)).ownsRow BB e 1 (.slice (some ⟨g2, 0, none⟩) (n + 1) c2) (n + 1) (ys ++ [y]) := own_keep ho2 (fun g hg => by cases hg; exact Below.heap_setCell wM ⟨bt, 1, none⟩ _ g2 nb2)
  have H := Fld.put (off := 2) (by simp [hy]) o2' st.1 st.2 (show (Value.slice (some ⟨g2, 0, none⟩) (n + 1) c2).ownBlock ≠ some bt from fun e => nb2 (Option.some.inj e)) t.h.lo A.ob
  refine ⟨⟨A.other 2 (by omega) _, H, fun g hg => ?_, fun e => nx1 (Option.some.inj e), fun e => nx2 (Option.some.inj e), t.xt⟩, ?_, ?_, ?_⟩
  · cases hg
    exact fun e => n12 (Option.some.inj e).symm
  · rw [Below.heap_setCell _ ⟨bt, 2, none⟩ _ xb t.xt, Below.heap_setCell _ ⟨bt, 1, none⟩ _ xb t.xt, hg2.block xb (by omega) (fun e => t.xu e.symm), qN.below.block xb (by omega), hg.block xb (by omega) (fun e => t.xv e.symm), q.below.block xb hxb]
  · rw [World.cell?_setCell_other _ ⟨bt, 2, none⟩ ⟨bt, 0, none⟩ _ (fun e => absurd (congrArg Addr.off e) (by show ¬ (2 = 0); omega)), World.cell?_setCell_other _ ⟨bt, 1, none⟩ ⟨bt, 0, none⟩ _ (fun e => absurd (congrArg Addr.off e) (by show ¬ (1 = 0); omega)),
      World.cell?_of_block (a := ⟨bt, 0, none⟩) e1, World.cell?_of_block (a := ⟨bt, 0, none⟩) (hg.block bt t1.l.blt (fun e => t.l.ne e.symm))]
    exact q.keep hc
  · intro w0 h0 b0
    have b1 := (b0.trans q).grownBy hg (fun k hk => by rw [h0]; exact (t.l.own.lt k hk).1)
    have b2 := (b1.trans qN).grownBy hg2 (fun k hk => by rw [h0]; exact (t.h.own.lt k hk).1)
    exact (b2.setCell (p := ⟨bt, 1, none⟩) (by rw [h0]; exact t.l.lo) _).setCell (p := ⟨bt, 2, none⟩) (by rw [h0]; exact t.l.lo) _
/-- What is to be appended lies there still. -/
theorem news_grown {w w' : World} {row : Option Nat} {H : Nat} {cs : List Value} (h : ∀ j u, cs[j]? = some u → w.cell? ((⟨H, 0, none⟩ : Addr).add j) = some u) (g : w.grownBy w' row) (hlt : H < w.heap.size) (hne : some H ≠ row) :
    ∀ j u, cs[j]? = some u → w'.cell? ((⟨H, 0, none⟩ : Addr).add j) = some u :=
  fun j u hj => by
  have e : (⟨H, 0, none⟩ : Addr).add j = ⟨H, j, none⟩ := add0 H j
  have h1 := h j u hj
  rw [e] at h1 ⊢
  exact (World.cell?_of_block (a := ⟨H, j, none⟩) (g.block H hlt hne)).trans h1
/-- No rows yet: a struct just made. -/
theorem two_start (W : World) (BB e t : Nat) (hv : Value) (hB : BB ≤ W.heap.size) (xb : Nat) (hx : W.heap.size ≠ xb) :
    Two (W.alloc (.cells #[hv, .slice none 0 0, .slice none 0 0] t)) BB W.heap.size e (.slice none 0 0) (.slice none 0 0) [] [] xb := by
  have c := fun (k : Nat) => World.cell?_alloc_new W #[hv, .slice none 0 0, .slice none 0 0] t k
  have f := fun (k : Nat) => World.frozen?_alloc_new W #[hv, .slice none 0 0, .slice none 0 0] t k
  have n : (Value.slice none 0 0).ownBlock = none := rfl
  have o : ∃ cs t', (W.alloc (.cells #[hv, .slice none 0 0, .slice none 0 0] t)).heap[W.heap.size]? = some (.cells cs t' (0, 0)) := ⟨#[hv, .slice none 0 0, .slice none 0 0], t, by show (W.heap.push _)[W.heap.size]? = _; simp⟩
  exact ⟨⟨c 1, f 1, World.ownsRow_nil _ _ _ _, by rw [n]; simp, hB, o⟩, ⟨c 2, f 2, World.ownsRow_nil _ _ _ _, by rw [n]; simp, hB, o⟩, (fun g h => by rw [n] at h; cases h), by rw [n]; simp, by rw [n]; simp, Ne.symm hx⟩
/-- Another block is to stay. -/
theorem Two.stay {w : World} {BB bt e xb : Nat} {v u : Value} {xs ys : List Value} (h : Two w BB bt e v u xs ys xb) (yb : Nat) (hy : w.heap.size ≤ yb) : Two w BB bt e v u xs ys yb :=
  ⟨h.l, h.h, h.ap, fun e => by have := (h.l.own.lt _ e).2; omega, fun e => by have := (h.h.own.lt _ e).2; omega, by have := h.l.blt; omega⟩
/-- The code's table: sums of bounds lie there, one a slice. -/
def CTab (w : World) (p : Value) (L : List (Int × Int)) : Prop :=
  ∃ b aL cL aH cH, 1 ≤ L.length ∧ p = .pointer (some ⟨b, 0, none⟩) ∧ w.cell? ⟨b, 0, none⟩ = some (.int .i64 (L.length * 100)) ∧ w.cell? ⟨b, 1, none⟩ = some (.slice (some aL) L.length cL) ∧ w.cell? ⟨b, 2, none⟩ = some (.slice (some aH) L.length cH) ∧
    (∀ k, k < L.length → w.cell? (aL.add k) = some (.int .i64 (lowT L (k + 1)))) ∧ (∀ k, k < L.length → w.cell? (aH.add k) = some (.int .i64 (highT L (k + 1))))
theorem CTab.keepB {w w' : World} {p : Value} {L : List (Int × Int)} (h : CTab w p L) (q : B w w') : CTab w' p L := by
  obtain ⟨b, aL, cL, aH, cH, hn, h0, hh, h1, h2, h3, h4⟩ := h
  exact ⟨b, aL, cL, aH, cH, hn, h0, q.keep hh, q.keep h1, q.keep h2, fun k hk => q.keep (h3 k hk), fun k hk => q.keep (h4 k hk)⟩
theorem own_some {w : World} {B e n : Nat} {v : Value} {xs : List Value} (h : w.ownsRow B e 1 v n xs) (hn : 1 ≤ n) : ∃ g c, v = .slice (some ⟨g, 0, none⟩) n c := by
  obtain ⟨h1, ⟨_, h0⟩ | ⟨g, cap, cur, rfl, _⟩⟩ := h
  · omega
  · exact ⟨g, cap, rfl⟩
theorem lowT_zero (L : List (Int × Int)) : lowT L 0 = 0 := by simp [lowT]
theorem highT_zero (L : List (Int × Int)) : highT L 0 = 0 := by simp [highT]
end Go.Proofs.Ytglniapfnhedoaa

namespace Go.Proofs.Ytglniapfnhedoaa
open Go.RowKit
section
variable {P : Program} {ops : Array Oper} {Q : Exit → Act → World → Prop} {md : Region.Mode} {S : World → Prop} {g : Nat}
/-- Nothing has come up ahead of what it waits for. -/
def Closed (md : Region.Mode) (ops : Array Oper) (listed : Array Bool) : Prop :=
  ∀ j oj, ops[j]? = some oj → listed.getD j false = true → ∀ e ∈ oj.after, Region.binds md e = true → listed.getD e.on false = true
theorem getD_set_eq {listed : Array Bool} {i : Nat} (d : Bool) (h : i < listed.size) : (listed.setIfInBounds i true).getD i d = true := by
  rw [Array.getD_eq_getD_getElem?, Array.getElem?_setIfInBounds]; simp [h]
theorem getD_set_other {listed : Array Bool} {i k : Nat} (d : Bool) (h : i ≠ k) : (listed.setIfInBounds i true).getD k d = listed.getD k d := by
  rw [Array.getD_eq_getD_getElem?, Array.getD_eq_getD_getElem?, Array.getElem?_setIfInBounds, if_neg h]
theorem getD_set_grow {listed : Array Bool} {i k : Nat} (h : listed.getD k false = true) : (listed.setIfInBounds i true).getD k false = true := by
  by_cases e : i = k
  · subst e
    by_cases c : i < listed.size
    · exact getD_set_eq _ c
    · rw [Array.getD_eq_getD_getElem?, Array.getElem?_eq_none (by omega)] at h; cases h
  · rw [getD_set_other _ e]; exact h
theorem getD_flip {listed : Array Bool} {i : Nat} (h : listed.getD i true = false) : listed.getD i false = false := by
  by_cases c : i < listed.size
  · simp [c] at h ⊢; exact h
  · rw [Array.getD_eq_getD_getElem?, Array.getElem?_eq_none (by omega)] at h; cases h
theorem Closed.set {listed : Array Bool} (h : Closed md ops listed) {i : Nat} (hr : i ∈ Region.ready md ops listed) : Closed md ops (listed.setIfInBounds i true) := by
  intro j oj hj hl e he hb
  by_cases c : i = j
  · subst c
    obtain ⟨_, o, ho, h2⟩ := mem_ready.1 hr
    obtain rfl := Option.some.inj (ho.symm.trans hj)
    exact getD_set_grow (h2 e he hb)
  · rw [getD_set_other _ c] at hl
    exact getD_set_grow (h j oj hj hl e he hb)
/-- Whatever order is picked: S holds behind every operation but the gate, while the gate has not come up. -/
def wpAnyG (P : Program) (md : Region.Mode) (ops : Array Oper) (Q : Exit → Act → World → Prop) (S : World → Prop) (g : Nat) : Nat → Array Bool → Act → World → Prop
  | 0, listed, a, w => Region.ready md ops listed = [] ∧ Q .normal a w
  | fuel + 1, listed, a, w =>
    (Region.ready md ops listed = [] → Q .normal a w) ∧
    ∀ i ∈ Region.ready md ops listed, wpOp P ops Q i (fun a' w' => (i ≠ g → listed.getD g false = false → S w') ∧ wpAnyG P md ops Q S g fuel (listed.setIfInBounds i true) a' w') a w
theorem wpAny_of_gate : ∀ (fuel : Nat) (listed : Array Bool) (a : Act) (w : World), wpAnyG P md ops Q S g fuel listed a w → wpAny P md ops Q fuel listed a w
  | 0, _, _, _, h => h
  | fuel + 1, _, _, _, h => ⟨h.1, fun i hi => wpOp_mono (fun a' w' h' => wpAny_of_gate fuel _ a' w' h'.2) (h.2 i hi)⟩
/-- The gate comes up behind i. -/
def Behind (md : Region.Mode) (ops : Array Oper) (i g : Nat) : Prop :=
  ∀ listed, Closed md ops listed → listed.getD i true = false → listed.getD g false = false ∧ g ∉ Region.ready md ops listed
theorem wpAnyG_first {i : Nat} {oi : Oper} {v : Value} {T : World → Prop} (hi : ops[i]? = some oi) (hsel : ∀ (j : Nat) (o : Oper) cs b, ops[j]? = some o → o.op ≠ .select cs b) (hig : i ≠ g)
    (hT : (∀ w, T w) ∨ ((∀ w, S w → T w) ∧ Behind md ops i g)) (hQ : ∀ c a w, Q (.panic c) (a.put oi.dst v) w → Q (.panic c) a w) :
    ∀ (fuel : Nat) (listed : Array Bool) (a : Act) (w : World), Closed md ops listed →
      (∀ j oj, ops[j]? = some oj → j ≠ i → listed.getD j true = false → (∀ e ∈ oj.after, Region.binds md e = true → e.on ≠ i) → oi.apart ops oj = true) →
      i ∈ Region.ready md ops listed → YieldsIf P ops T oi v a → T w → (listed.getD g false = false → S w) →
      wpAnyG P md ops Q S g fuel (listed.setIfInBounds i true) (a.put oi.dst v) w → wpAnyG P md ops Q S g (fuel + 1) listed a w := by
  intro fuel
  induction fuel with
  | zero =>
    intro listed a w _ _ hr hy hTw hSw H
    refine ⟨fun h => (by rw [h] at hr; cases hr), fun j hj => ?_⟩
    by_cases hji : j = i
    · subst hji; exact hy.wpOp hi hTw ⟨fun _ h => hSw h, H⟩
    · have := ready_mono hj hji
      rw [H.1] at this
      cases this
  | succ fuel ih =>
    intro listed a w hcl hfree hr hy hTw hSw H
    refine ⟨fun h => (by rw [h] at hr; cases hr), fun j hj => ?_⟩
    by_cases hji : j = i
    · subst hji; exact hy.wpOp hi hTw ⟨fun _ h => hSw h, H⟩
    · have h1 := H.2 j (ready_mono hj hji)
      obtain ⟨hjun, oj, hoj, hall⟩ := mem_ready.1 hj
      have hiun := (mem_ready.1 hr).1
      have hnot : ∀ e ∈ oj.after, Region.binds md e = true → e.on ≠ i := fun e he hb heq => by
        have h1 := hall e he hb
        rw [heq, getD_flip hiun] at h1
        cases h1
      have h2 := wpOp_putIf hoj (hfree j oj hoj hji hjun hnot) (fun cs b => hsel i oi cs b hi) (fun cs b => hsel j oj cs b hoj) hQ hy h1
      have hfree' : ∀ k ok, ops[k]? = some ok → k ≠ i → (listed.setIfInBounds j true).getD k true = false →
          (∀ e ∈ ok.after, Region.binds md e = true → e.on ≠ i) → oi.apart ops ok = true := fun k ok hk hki hun hno => by
        refine hfree k ok hk hki ?_ hno
        by_cases hjk : j = k
        · subst hjk; exact hjun
        · rw [getD_set_other true hjk] at hun; exact hun
      rw [getD_set_other _ hig] at h2
      refine wpOp_mono (fun a' w' h3 => ?_) h2
      have hS' : (listed.setIfInBounds j true).getD g false = false → S w' := fun h => by
        by_cases hjg : j = g
        · subst hjg
          rw [getD_set_eq _ (by
            by_cases c : j < listed.size
            · exact c
            · rw [Array.getD_eq_getD_getElem?, Array.getElem?_eq_none (by omega)] at hjun; cases hjun)] at h
          cases h
        · rw [getD_set_other _ hjg] at h
          exact h3.2.1 hjg h
      have hT' : T w' := by
        rcases hT with hT | ⟨hT, hB⟩
        · exact hT w'
        · obtain ⟨hg1, hg2⟩ := hB listed hcl hiun
          refine hT w' (h3.2.1 (fun e => hg2 (e ▸ hj)) hg1)
      refine ⟨fun h4 h5 => h3.2.1 h4 h5, ih (listed.setIfInBounds j true) a' w' (hcl.set hj) hfree' (ready_mono hr (Ne.symm hji)) h3.1 hT' hS' ?_⟩
      rw [Array.setIfInBounds_comm _ _ hji]
      exact h3.2.2
/-- Those that wait for i, one by one: each waits for an earlier one of them. -/
def laterOk (am : List Nat) (i later : Nat) : Bool :=
  (List.range am.length).all fun d => !later.testBit d || d == i || (List.range d).any fun e => later.testBit e && (am.getD d 0).testBit e
theorem later_unlisted (am : List Nat) (ham : ops.toList.map (amOf md) = am) (i later : Nat) (hl : laterOk am i later = true) (listed : Array Bool) (hcl : Closed md ops listed) (hi : listed.getD i false = false) :
    ∀ d, d < am.length → later.testBit d = true → listed.getD d false = false := by
  intro d
  induction d using Nat.strongRecOn with
  | _ d ih =>
    intro hd hb
    have h := List.all_eq_true.1 hl d (List.mem_range.2 hd)
    rw [hb] at h
    simp only [Bool.not_true, Bool.false_or, Bool.or_eq_true, beq_iff_eq, List.any_eq_true, List.mem_range, Bool.and_eq_true] at h
    rcases h with rfl | ⟨e, he, h1, h2⟩
    · exact hi
    · have hlen : am.length = ops.size := by rw [← ham]; simp
      obtain ⟨o, ho⟩ : ∃ o, ops[d]? = some o := ⟨_, Array.getElem?_eq_getElem (by omega)⟩
      have ea : am.getD d 0 = amOf md o := by
        rw [← ham, List.getD_eq_getElem?_getD, List.getElem?_map, Array.getElem?_toList, ho]; rfl
      rw [ea] at h2
      obtain ⟨x, hx, hxb, hxe⟩ := (amOf_bit md o e).1 h2
      cases c : listed.getD d false
      · rfl
      · have := hcl d o ho c x hx hxb
        rw [hxe, ih e he (by omega) h1] at this
        cases this
theorem behind_of (am : List Nat) (ham : ops.toList.map (amOf md) = am) (i later : Nat) (hl : laterOk am i later = true) (hg : later.testBit g = true) (hgi : g ≠ i) (hgn : g < am.length) : Behind md ops i g := by
  intro listed hcl hi
  refine ⟨later_unlisted am ham i later hl listed hcl (getD_flip hi) g hgn hg, fun hr => ?_⟩
  obtain ⟨_, o, ho, h2⟩ := mem_ready.1 hr
  have h := List.all_eq_true.1 hl g (List.mem_range.2 hgn)
  rw [hg] at h
  simp only [Bool.not_true, Bool.false_or, Bool.or_eq_true, beq_iff_eq, List.any_eq_true, List.mem_range, Bool.and_eq_true] at h
  rcases h with h | ⟨e, he, h1, h3⟩
  · exact hgi h
  · have ea : am.getD g 0 = amOf md o := by
      rw [← ham, List.getD_eq_getElem?_getD, List.getElem?_map, Array.getElem?_toList, ho]; rfl
    rw [ea] at h3
    obtain ⟨x, hx, hxb, hxe⟩ := (amOf_bit md o e).1 h3
    have h4 := h2 x hx hxb
    rw [hxe, later_unlisted am ham i later hl listed hcl (getD_flip hi) e (by omega) h1] at h4
    cases h4
end
/-- May they come up so? 0: taken, by S, ahead of the gate; 1: passed over; 2: the only one that may come up, ahead of the gate; 3: taken, in whatever world; 4: the gate, or behind it: the only one that may come up. -/
def seqOkG (n g : Nat) (am cf later : List Nat) : List (Nat × Nat) → Nat → Bool
  | [], done => (List.range n).all done.testBit
  | (i, k) :: l, done => decide (i < n) && !done.testBit i && (am.getD i 0 &&& done == am.getD i 0) &&
      (if k = 2 ∨ k = 4 then (List.range n).all (fun j => j == i || done.testBit j || !(am.getD j 0 &&& done == am.getD j 0)) else (cf.getD i 0 &&& done == cf.getD i 0) && i != g) &&
      (if k = 0 then laterOk am i (later.getD i 0) && (later.getD i 0).testBit g else if k = 2 then i != g && !done.testBit g else if k = 4 then i == g || done.testBit g else true) && seqOkG n g am cf later l (done ||| 2 ^ i)
def wpSeqG (P : Program) (ops : Array Oper) (Q : Exit → Act → World → Prop) (S : World → Prop) : List (Nat × Nat) → Act → World → Prop
  | [], a, w => Q .normal a w
  | (i, k) :: l, a, w => ∃ o, ops[i]? = some o ∧
      (if k = 0 then ∃ v, (Region.wanted o (yielded ops a.tmps) = true ∧ ∀ w, S w → (execOp a.eval o).run P w = .ok (.value v) w) ∧ wpSeqG P ops Q S l (a.put o.dst v) w
      else if k = 1 then Region.wanted o (yielded ops a.tmps) = false ∧ wpSeqG P ops Q S l (a.put o.dst undef) w
      else if k = 2 then wpOp P ops Q i (fun a' w' => S w' ∧ wpSeqG P ops Q S l a' w') a w
      else if k = 3 then ∃ v, (Region.wanted o (yielded ops a.tmps) = true ∧ ∀ w, (execOp a.eval o).run P w = .ok (.value v) w) ∧ wpSeqG P ops Q S l (a.put o.dst v) w
      else k = 4 ∧ wpOp P ops Q i (fun a' w' => wpSeqG P ops Q S l a' w') a w)
theorem wpAnyG_seq {P : Program} {md : Region.Mode} {ops : Array Oper} {Q : Exit → Act → World → Prop} {S : World → Prop} (g : Nat) (am cf later : List Nat) (hgn : g < ops.size)
    (ham : ops.toList.map (amOf md) = am) (hcf : cfAll md ops ops.toList 0 = cf) (hs : Region.noSelect ops = true)
    (hQ : ∀ c a w d v, Q (.panic c) (Act.put a d v) w → Q (.panic c) a w) :
    ∀ (l : List (Nat × Nat)) (done : Nat) (listed : Array Bool) (a : Act) (w : World), Inv ops.size listed done → Closed md ops listed → seqOkG ops.size g am cf later l done = true → (done.testBit g = false → S w) →
      wpSeqG P ops Q S l a w → wpAnyG P md ops Q S g l.length listed a w := by
  have am_get : ∀ (i : Nat) (o : Oper), ops[i]? = some o → am.getD i 0 = amOf md o := by
    intro i o ho
    rw [← ham, List.getD_eq_getElem?_getD, List.getElem?_map, Array.getElem?_toList, ho]; rfl
  have am_len : am.length = ops.size := by rw [← ham]; simp
  have cf_get : ∀ (i : Nat) (o : Oper), ops[i]? = some o → cf.getD i 0 = cfOf md ops o i ops.toList 0 := by
    intro i o ho
    rw [← hcf, List.getD_eq_getElem?_getD, cfAll_get md ops ops.toList 0 i o (by rw [Array.getElem?_toList]; exact ho), Nat.zero_add]; rfl
  have is_ready : ∀ (i done : Nat) (listed : Array Bool) (o : Oper), Inv ops.size listed done → ops[i]? = some o → done.testBit i = false → (am.getD i 0 &&& done == am.getD i 0) = true → i ∈ Region.ready md ops listed := by
    intro i done listed o hI ho hd ha
    have hin : i < ops.size := (Array.getElem?_eq_some_iff.1 ho).1
    refine mem_ready.2 ⟨by rw [hI.getT hin]; exact hd, o, ho, fun e he hb => ?_⟩
    rw [hI.getF]
    rw [am_get i o ho] at ha
    exact sub_bits ha e.on ((amOf_bit md o e.on).2 ⟨e, he, hb, rfl⟩)
  have ready_is : ∀ (i done : Nat) (listed : Array Bool), Inv ops.size listed done → i ∈ Region.ready md ops listed → i < ops.size ∧ done.testBit i = false ∧ (am.getD i 0 &&& done == am.getD i 0) = true := by
    intro i done listed hI hr
    obtain ⟨h1, o, ho, h2⟩ := mem_ready.1 hr
    have hin : i < ops.size := (Array.getElem?_eq_some_iff.1 ho).1
    refine ⟨hin, by rw [← hI.getT hin]; exact h1, ?_⟩
    rw [am_get i o ho]
    refine bits_sub fun k hk => ?_
    obtain ⟨e, he, hb, rfl⟩ := (amOf_bit md o k).1 hk
    rw [← hI.getF]
    exact h2 e he hb
  intro l
  induction l with
  | nil =>
    intro done listed a w hI _ hk _ h
    refine ⟨?_, h⟩
    refine List.eq_nil_iff_forall_not_mem.2 fun i hi => ?_
    obtain ⟨h1, h2, _⟩ := ready_is i done listed hI hi
    have := List.all_eq_true.1 hk i (List.mem_range.2 h1)
    rw [h2] at this
    cases this
  | cons x l ih =>
    obtain ⟨i, k⟩ := x
    intro done listed a w hI hcl hk hS h
    unfold seqOkG at hk
    simp only [Bool.and_eq_true, decide_eq_true_eq, Bool.not_eq_true'] at hk
    obtain ⟨⟨⟨⟨⟨k1, k2⟩, k3⟩, k4⟩, k5⟩, k6⟩ := hk
    obtain ⟨o, ho, h⟩ := h
    have hr := is_ready i done listed o hI ho k2 k3
    have hI' := hI.set k1
    have hcl' := hcl.set hr
    have gbit : ∀ j, j ≠ g → (done ||| 2 ^ j).testBit g = done.testBit g := fun j hj => by
      rw [Nat.testBit_or, testBit_pow]
      simp [hj]
    have hfree : ¬ (k = 2 ∨ k = 4) → i ≠ g ∧ ∀ j oj, ops[j]? = some oj → j ≠ i → listed.getD j true = false → (∀ e ∈ oj.after, Region.binds md e = true → e.on ≠ i) → o.apart ops oj = true := by
      intro hk2
      rw [if_neg hk2] at k4
      simp only [Bool.and_eq_true, bne_iff_ne] at k4
      refine ⟨k4.2, ?_⟩
      intro j oj hj hji hun hno
      cases c : o.apart ops oj
      · exfalso
        have hjn : j < ops.size := (Array.getElem?_eq_some_iff.1 hj).1
        have hb : (amOf md oj).testBit i = false := by
          cases e : (amOf md oj).testBit i
          · rfl
          · obtain ⟨x, hx, hxb, hxi⟩ := (amOf_bit md oj i).1 e
            exact absurd hxi (hno x hx hxb)
        have k4' := k4.1
        rw [cf_get i o ho] at k4'
        have := sub_bits k4' j (cfOf_bit md ops o i j oj hji hb c ops.toList 0 j (by rw [Array.getElem?_toList]; exact hj) (Nat.zero_add _))
        rw [hI.getT hjn, this] at hun
        cases hun
      · rfl
    have only : (k = 2 ∨ k = 4) → ∀ j ∈ Region.ready md ops listed, j = i := by
      intro hk2 j hj
      rw [if_pos hk2] at k4
      obtain ⟨q1, q2, q3⟩ := ready_is j done listed hI hj
      have := List.all_eq_true.1 k4 j (List.mem_range.2 q1)
      rw [q2, q3] at this
      simpa using this
    have hSl : listed.getD g false = false → S w := fun hg => hS (by rw [← hI.getF]; exact hg)
    rw [List.length_cons]
    by_cases c0 : k = 0
    · subst c0
      obtain ⟨hig, hfr⟩ := hfree (by omega)
      rw [if_pos rfl] at h k5
      simp only [Bool.and_eq_true] at k5
      obtain ⟨v, ⟨hw, hv⟩, h⟩ := h
      have hB := behind_of (g := g) am ham i (later.getD i 0) k5.1 k5.2 (Ne.symm hig) (by omega)
      obtain ⟨hg1, _⟩ := hB listed hcl (mem_ready.1 hr).1
      exact wpAnyG_first (T := S) ho (Region.noSelect_spec hs) hig (.inr ⟨fun _ h => h, hB⟩) (fun c a w h => hQ c a w _ _ h) l.length listed a w hcl hfr hr (Or.inl ⟨hw, hv⟩) (hSl hg1) hSl
        (ih _ _ _ _ hI' hcl' k6 (fun hg => hSl hg1) h)
    rw [if_neg c0] at h
    by_cases c1 : k = 1
    · subst c1
      obtain ⟨hig, hfr⟩ := hfree (by omega)
      rw [if_pos rfl] at h
      exact wpAnyG_first (T := fun _ => True) ho (Region.noSelect_spec hs) hig (.inl fun _ => trivial) (fun c a w h => hQ c a w _ _ h) l.length listed a w hcl hfr hr (Or.inr ⟨h.1, rfl⟩) trivial hSl
        (ih _ _ _ _ hI' hcl' k6 (fun hg => hS (by rw [gbit i hig] at hg; exact hg)) h.2)
    rw [if_neg c1] at h
    by_cases c2 : k = 2
    · subst c2
      rw [if_pos rfl] at h
      simp only [if_neg c0, if_true, Bool.and_eq_true, bne_iff_ne, Bool.not_eq_true'] at k5
      refine ⟨fun e => (by rw [e] at hr; cases hr), fun j hj => ?_⟩
      obtain rfl := only (Or.inl rfl) j hj
      exact wpOp_mono (fun a' w' h' => ⟨fun _ _ => h'.1, ih _ _ _ _ hI' hcl' k6 (fun _ => h'.1) h'.2⟩) h
    rw [if_neg c2] at h
    by_cases c3 : k = 3
    · subst c3
      obtain ⟨hig, hfr⟩ := hfree (by omega)
      rw [if_pos rfl] at h
      obtain ⟨v, ⟨hw, hv⟩, h⟩ := h
      exact wpAnyG_first (T := fun _ => True) ho (Region.noSelect_spec hs) hig (.inl fun _ => trivial) (fun c a w h => hQ c a w _ _ h) l.length listed a w hcl hfr hr (Or.inl ⟨hw, fun w _ => hv w⟩) trivial hSl
        (ih _ _ _ _ hI' hcl' k6 (fun hg => hS (by rw [gbit i hig] at hg; exact hg)) h)
    rw [if_neg c3] at h
    obtain ⟨c4, h⟩ := h
    subst c4
    simp only [if_neg c0, if_neg c2, if_true, Bool.or_eq_true, beq_iff_eq] at k5
    refine ⟨fun e => (by rw [e] at hr; cases hr), fun j hj => ?_⟩
    obtain rfl := only (Or.inr rfl) j hj
    have hdone : (done ||| 2 ^ j).testBit g = true := by
      rw [Nat.testBit_or, testBit_pow]
      rcases k5 with rfl | k5
      · simp
      · rw [k5]; rfl
    have hls : listed.getD g false = false → j = g := fun hg => by
      rcases k5 with k5 | k5
      · exact k5
      · rw [hI.getF, k5] at hg; cases hg
    exact wpOp_mono (fun a' w' h' => ⟨fun hjg hg => absurd (hls hg) hjg, ih _ _ _ _ hI' hcl' k6 (fun hg => by rw [hdone] at hg; cases hg) h'⟩) h
/-- The beginning: the order, and that it may be. -/
theorem wp_region_gate {P : Program} {ops : Array Oper} {Q : Exit → Act → World → Prop} {S : World → Prop} {id : Nat} {a : Act} {w : World} (g : Nat) (l : List (Nat × Nat)) (am cf later : List Nat) (hm : P.follows .mixedOrders = true)
    (hk : (Region.noSelect ops && decide (l.length = ops.size) && decide (g < ops.size) && decide (ops.toList.map (amOf .any) = am) && decide (cfAll .any ops ops.toList 0 = cf) && seqOkG ops.size g am cf later l 0) = true)
    (hQ : ∀ c a w d v, Q (.panic c) (Act.put a d v) w → Q (.panic c) a w) (hS : S w.drew)
    (h : S w.drew → wpSeqG P ops Q S l a w.drew) : (Code.region id ops true).wp P Q a w := by
  simp only [Bool.and_eq_true, decide_eq_true_eq] at hk
  obtain ⟨⟨⟨⟨⟨h1, h2⟩, hg⟩, h3⟩, h4⟩, h5⟩ := hk
  refine wp_region_any hm ?_
  rw [← h2]
  refine wpAny_of_gate (S := S) (g := g) _ _ _ _ ?_
  have := wpAnyG_seq (P := P) (md := .any) (S := S) g am cf later hg h3 h4 h1 hQ l 0 (Array.replicate ops.size false) a w.drew (Inv.start _) (fun j oj hj hl => by
    rw [Array.getD_eq_getD_getElem?, Array.getElem?_replicate] at hl
    split at hl <;> simp at hl) h5 (fun _ => hS) (h hS)
  rw [h2] at this ⊢
  exact this
theorem wpSeqG_take {P : Program} {ops : Array Oper} {Q : Exit → Act → World → Prop} {S : World → Prop} {l : List (Nat × Nat)} {t : List Value} {df : List _} {w : World} {i d : Nat} {o : Oper} {v : Value}
    (ho : ops.toList[i]? = some o) (hd : o.dst = some d) (hw : Region.wanted o (yielded ops t.toArray) = true)
    (hy : ∀ w, S w → (execOp (Act.eval { tmps := t.toArray, defers := df }) o).run P w = .ok (.value v) w)
    (h : wpSeqG P ops Q S l { tmps := (t.set d v).toArray, defers := df } w) : wpSeqG P ops Q S ((i, 0) :: l) { tmps := t.toArray, defers := df } w := by
  refine ⟨o, by rw [← Array.getElem?_toList]; exact ho, ?_⟩
  rw [if_pos rfl]
  refine ⟨v, ⟨hw, hy⟩, ?_⟩
  have e : Act.put { tmps := t.toArray, defers := df } o.dst v = { tmps := (t.set d v).toArray, defers := df } := by
    rw [hd]; simp [Act.put]
  rw [e]
  exact h
theorem wpSeqG_free {P : Program} {ops : Array Oper} {Q : Exit → Act → World → Prop} {S : World → Prop} {l : List (Nat × Nat)} {t : List Value} {df : List _} {w : World} {i d : Nat} {o : Oper} {v : Value}
    (ho : ops.toList[i]? = some o) (hd : o.dst = some d) (hw : Region.wanted o (yielded ops t.toArray) = true)
    (hy : ∀ w, (execOp (Act.eval { tmps := t.toArray, defers := df }) o).run P w = .ok (.value v) w)
    (h : wpSeqG P ops Q S l { tmps := (t.set d v).toArray, defers := df } w) : wpSeqG P ops Q S ((i, 3) :: l) { tmps := t.toArray, defers := df } w := by
  refine ⟨o, by rw [← Array.getElem?_toList]; exact ho, ?_⟩
  rw [if_neg (by decide), if_neg (by decide), if_neg (by decide), if_pos rfl]
  refine ⟨v, ⟨hw, hy⟩, ?_⟩
  have e : Act.put { tmps := t.toArray, defers := df } o.dst v = { tmps := (t.set d v).toArray, defers := df } := by
    rw [hd]; simp [Act.put]
  rw [e]
  exact h
theorem wpSeqG_call {P : Program} {ops : Array Oper} {Q : Exit → Act → World → Prop} {S : World → Prop} {l : List (Nat × Nat)} {a : Act} {w : World} {i : Nat} {o : Oper}
    (ho : ops.toList[i]? = some o) (hw : Region.wanted o (yielded ops a.tmps) = true)
    (h : ∀ K' : Act → World → Prop, Shut (∀ a w, S w → (S w → wpSeqG P ops Q S l a w) → K' a w) → Oper.wp P o a w K' Q) : wpSeqG P ops Q S ((i, 2) :: l) a w := by
  rw [Array.getElem?_toList] at ho
  refine ⟨o, ho, ?_⟩
  rw [if_neg (by decide), if_neg (by decide), if_pos rfl]
  refine wpOp_step ho fun K' hK => ?_
  rw [if_pos hw]
  exact h K' fun a w hS h => hK a w ⟨hS, h hS⟩
theorem wpSeqG_gate {P : Program} {ops : Array Oper} {Q : Exit → Act → World → Prop} {S : World → Prop} {l : List (Nat × Nat)} {a : Act} {w : World} {i : Nat} {o : Oper}
    (ho : ops.toList[i]? = some o) (hw : Region.wanted o (yielded ops a.tmps) = true)
    (h : ∀ K' : Act → World → Prop, Shut (∀ a w, wpSeqG P ops Q S l a w → K' a w) → Oper.wp P o a w K' Q) : wpSeqG P ops Q S ((i, 4) :: l) a w := by
  rw [Array.getElem?_toList] at ho
  refine ⟨o, ho, ?_⟩
  rw [if_neg (by decide), if_neg (by decide), if_neg (by decide), if_neg (by decide)]
  refine ⟨rfl, wpOp_step ho fun K' hK => ?_⟩
  rw [if_pos hw]
  exact h K' fun a w h => hK a w h
theorem wpSeqG_done {P : Program} {ops : Array Oper} {Q : Exit → Act → World → Prop} {S : World → Prop} {a : Act} {w : World} (h : Q .normal a w) : wpSeqG P ops Q S [] a w := h
end Go.Proofs.Ytglniapfnhedoaa

namespace Go.Proofs.Ytglniapfnhedoaa
open Go.RowKit
/-- An order; at a fork two operations may come up, both ahead of the gate. -/
inductive Ord where
  | done : Ord
  | step : Nat → Nat → Ord → Ord
  | fork : Nat → Ord → Nat → Ord → Ord
def Ord.len : Ord → Nat
  | .done => 0
  | .step _ _ l => l.len + 1
  | .fork _ l _ _ => l.len + 1
/-- May they come up so? 0: taken, by S, ahead of the gate; 1: passed over; 2: the only one that may come up, ahead of the gate; 3: taken, in whatever world; 4: the gate, or behind it: the only one that may come up. -/
def seqOkF (n g : Nat) (am cf later : List Nat) : Ord → Nat → Bool
  | .done, done => (List.range n).all done.testBit
  | .step i k l, done => decide (i < n) && !done.testBit i && (am.getD i 0 &&& done == am.getD i 0) &&
      (if k = 2 ∨ k = 4 then (List.range n).all (fun j => j == i || done.testBit j || !(am.getD j 0 &&& done == am.getD j 0)) else (cf.getD i 0 &&& done == cf.getD i 0) && i != g) &&
      (if k = 0 then laterOk am i (later.getD i 0) && (later.getD i 0).testBit g else if k = 2 then i != g && !done.testBit g else if k = 4 then i == g || done.testBit g else true) && seqOkF n g am cf later l (done ||| 2 ^ i)
  | .fork i l j r, done => decide (i < n) && decide (j < n) && !done.testBit i && !done.testBit j && (am.getD i 0 &&& done == am.getD i 0) && (am.getD j 0 &&& done == am.getD j 0) &&
      (List.range n).all (fun x => x == i || x == j || done.testBit x || !(am.getD x 0 &&& done == am.getD x 0)) && i != g && j != g && !done.testBit g && l.len == r.len && seqOkF n g am cf later l (done ||| 2 ^ i) && seqOkF n g am cf later r (done ||| 2 ^ j)
def wpSeqF (P : Program) (ops : Array Oper) (Q : Exit → Act → World → Prop) (S : World → Prop) : Ord → Act → World → Prop
  | .done, a, w => Q .normal a w
  | .fork i l j r, a, w => wpOp P ops Q i (fun a' w' => S w' ∧ wpSeqF P ops Q S l a' w') a w ∧ wpOp P ops Q j (fun a' w' => S w' ∧ wpSeqF P ops Q S r a' w') a w
  | .step i k l, a, w => ∃ o, ops[i]? = some o ∧
      (if k = 0 then ∃ v, (Region.wanted o (yielded ops a.tmps) = true ∧ ∀ w, S w → (execOp a.eval o).run P w = .ok (.value v) w) ∧ wpSeqF P ops Q S l (a.put o.dst v) w
      else if k = 1 then Region.wanted o (yielded ops a.tmps) = false ∧ wpSeqF P ops Q S l (a.put o.dst undef) w
      else if k = 2 then wpOp P ops Q i (fun a' w' => S w' ∧ wpSeqF P ops Q S l a' w') a w
      else if k = 3 then ∃ v, (Region.wanted o (yielded ops a.tmps) = true ∧ ∀ w, (execOp a.eval o).run P w = .ok (.value v) w) ∧ wpSeqF P ops Q S l (a.put o.dst v) w
      else k = 4 ∧ wpOp P ops Q i (fun a' w' => wpSeqF P ops Q S l a' w') a w)
theorem wpAnyF_seq {P : Program} {md : Region.Mode} {ops : Array Oper} {Q : Exit → Act → World → Prop} {S : World → Prop} (g : Nat) (am cf later : List Nat) (hgn : g < ops.size)
    (ham : ops.toList.map (amOf md) = am) (hcf : cfAll md ops ops.toList 0 = cf) (hs : Region.noSelect ops = true)
    (hQ : ∀ c a w d v, Q (.panic c) (Act.put a d v) w → Q (.panic c) a w) :
    ∀ (l : Ord) (done : Nat) (listed : Array Bool) (a : Act) (w : World), Inv ops.size listed done → Closed md ops listed → seqOkF ops.size g am cf later l done = true → (done.testBit g = false → S w) →
      wpSeqF P ops Q S l a w → wpAnyG P md ops Q S g l.len listed a w := by
  have am_get : ∀ (i : Nat) (o : Oper), ops[i]? = some o → am.getD i 0 = amOf md o := by
    intro i o ho
    rw [← ham, List.getD_eq_getElem?_getD, List.getElem?_map, Array.getElem?_toList, ho]; rfl
  have am_len : am.length = ops.size := by rw [← ham]; simp
  have cf_get : ∀ (i : Nat) (o : Oper), ops[i]? = some o → cf.getD i 0 = cfOf md ops o i ops.toList 0 := by
    intro i o ho
    rw [← hcf, List.getD_eq_getElem?_getD, cfAll_get md ops ops.toList 0 i o (by rw [Array.getElem?_toList]; exact ho), Nat.zero_add]; rfl
  have is_ready : ∀ (i done : Nat) (listed : Array Bool) (o : Oper), Inv ops.size listed done → ops[i]? = some o → done.testBit i = false → (am.getD i 0 &&& done == am.getD i 0) = true → i ∈ Region.ready md ops listed := by
    intro i done listed o hI ho hd ha
    have hin : i < ops.size := (Array.getElem?_eq_some_iff.1 ho).1
    refine mem_ready.2 ⟨by rw [hI.getT hin]; exact hd, o, ho, fun e he hb => ?_⟩
    rw [hI.getF]
    rw [am_get i o ho] at ha
    exact sub_bits ha e.on ((amOf_bit md o e.on).2 ⟨e, he, hb, rfl⟩)
  have ready_is : ∀ (i done : Nat) (listed : Array Bool), Inv ops.size listed done → i ∈ Region.ready md ops listed → i < ops.size ∧ done.testBit i = false ∧ (am.getD i 0 &&& done == am.getD i 0) = true := by
    intro i done listed hI hr
    obtain ⟨h1, o, ho, h2⟩ := mem_ready.1 hr
    have hin : i < ops.size := (Array.getElem?_eq_some_iff.1 ho).1
    refine ⟨hin, by rw [← hI.getT hin]; exact h1, ?_⟩
    rw [am_get i o ho]
    refine bits_sub fun k hk => ?_
    obtain ⟨e, he, hb, rfl⟩ := (amOf_bit md o k).1 hk
    rw [← hI.getF]
    exact h2 e he hb
  intro l
  induction l with
  | done =>
    intro done listed a w hI _ hk _ h
    refine ⟨?_, h⟩
    refine List.eq_nil_iff_forall_not_mem.2 fun i hi => ?_
    obtain ⟨h1, h2, _⟩ := ready_is i done listed hI hi
    have := List.all_eq_true.1 hk i (List.mem_range.2 h1)
    rw [h2] at this
    cases this
  | fork i l j r ihl ihr =>
    intro done listed a w hI hcl hk hS h
    unfold seqOkF at hk
    simp only [Bool.and_eq_true, decide_eq_true_eq, Bool.not_eq_true', bne_iff_ne, beq_iff_eq] at hk
    obtain ⟨⟨⟨⟨⟨⟨⟨⟨⟨⟨⟨⟨k1, k1'⟩, k2⟩, k2'⟩, k3⟩, k3'⟩, k4⟩, k5⟩, k5'⟩, k6⟩, k7⟩, k8⟩, k8'⟩ := hk
    have gi : ops[i]? = some ops[i] := Array.getElem?_eq_getElem k1
    have gj : ops[j]? = some ops[j] := Array.getElem?_eq_getElem k1'
    have ri := is_ready i done listed _ hI gi k2 (by rw [beq_iff_eq]; exact k3)
    have rj := is_ready j done listed _ hI gj k2' (by rw [beq_iff_eq]; exact k3')
    refine ⟨fun e => (by rw [e] at ri; cases ri), fun x hx => ?_⟩
    obtain ⟨q1, q2, q3⟩ := ready_is x done listed hI hx
    have hd := List.all_eq_true.1 k4 x (List.mem_range.2 q1)
    rw [q2, q3] at hd
    simp only [Bool.not_true, Bool.or_false, Bool.or_eq_true, beq_iff_eq] at hd
    by_cases hxi : x = i
    · subst hxi
      exact wpOp_mono (fun a' w' h' => ⟨fun _ _ => h'.1, ihl _ _ _ _ (hI.set k1) (hcl.set ri) k8 (fun _ => h'.1) h'.2⟩) h.1
    · have hxj : x = j := by
        rcases hd with hd | hd
        · exact absurd hd hxi
        · exact hd
      subst hxj
      have e := wpOp_mono (fun a' w' h' => (⟨fun _ _ => h'.1, ihr _ _ _ _ (hI.set k1') (hcl.set rj) k8' (fun _ => h'.1) h'.2⟩ : (x ≠ g → listed.getD g false = false → S w') ∧ wpAnyG P md ops Q S g r.len (listed.setIfInBounds x true) a' w')) h.2
      rw [← k7] at e
      exact e
  | step i k l ih =>
    intro done listed a w hI hcl hk hS h
    unfold seqOkF at hk
    simp only [Bool.and_eq_true, decide_eq_true_eq, Bool.not_eq_true'] at hk
    obtain ⟨⟨⟨⟨⟨k1, k2⟩, k3⟩, k4⟩, k5⟩, k6⟩ := hk
    obtain ⟨o, ho, h⟩ := h
    have hr := is_ready i done listed o hI ho k2 k3
    have hI' := hI.set k1
    have hcl' := hcl.set hr
    have gbit : ∀ j, j ≠ g → (done ||| 2 ^ j).testBit g = done.testBit g := fun j hj => by
      rw [Nat.testBit_or, testBit_pow]
      simp [hj]
    have hfree : ¬ (k = 2 ∨ k = 4) → i ≠ g ∧ ∀ j oj, ops[j]? = some oj → j ≠ i → listed.getD j true = false → (∀ e ∈ oj.after, Region.binds md e = true → e.on ≠ i) → o.apart ops oj = true := by
      intro hk2
      rw [if_neg hk2] at k4
      simp only [Bool.and_eq_true, bne_iff_ne] at k4
      refine ⟨k4.2, ?_⟩
      intro j oj hj hji hun hno
      cases c : o.apart ops oj
      · exfalso
        have hjn : j < ops.size := (Array.getElem?_eq_some_iff.1 hj).1
        have hb : (amOf md oj).testBit i = false := by
          cases e : (amOf md oj).testBit i
          · rfl
          · obtain ⟨x, hx, hxb, hxi⟩ := (amOf_bit md oj i).1 e
            exact absurd hxi (hno x hx hxb)
        have k4' := k4.1
        rw [cf_get i o ho] at k4'
        have := sub_bits k4' j (cfOf_bit md ops o i j oj hji hb c ops.toList 0 j (by rw [Array.getElem?_toList]; exact hj) (Nat.zero_add _))
        rw [hI.getT hjn, this] at hun
        cases hun
      · rfl
    have only : (k = 2 ∨ k = 4) → ∀ j ∈ Region.ready md ops listed, j = i := by
      intro hk2 j hj
      rw [if_pos hk2] at k4
      obtain ⟨q1, q2, q3⟩ := ready_is j done listed hI hj
      have := List.all_eq_true.1 k4 j (List.mem_range.2 q1)
      rw [q2, q3] at this
      simpa using this
    have hSl : listed.getD g false = false → S w := fun hg => hS (by rw [← hI.getF]; exact hg)
    by_cases c0 : k = 0
    · subst c0
      obtain ⟨hig, hfr⟩ := hfree (by omega)
      rw [if_pos rfl] at h k5
      simp only [Bool.and_eq_true] at k5
      obtain ⟨v, ⟨hw, hv⟩, h⟩ := h
      have hB := behind_of (g := g) am ham i (later.getD i 0) k5.1 k5.2 (Ne.symm hig) (by omega)
      obtain ⟨hg1, _⟩ := hB listed hcl (mem_ready.1 hr).1
      exact wpAnyG_first (T := S) ho (Region.noSelect_spec hs) hig (.inr ⟨fun _ h => h, hB⟩) (fun c a w h => hQ c a w _ _ h) l.len listed a w hcl hfr hr (Or.inl ⟨hw, hv⟩) (hSl hg1) hSl
        (ih _ _ _ _ hI' hcl' k6 (fun hg => hSl hg1) h)
    rw [if_neg c0] at h
    by_cases c1 : k = 1
    · subst c1
      obtain ⟨hig, hfr⟩ := hfree (by omega)
      rw [if_pos rfl] at h
      exact wpAnyG_first (T := fun _ => True) ho (Region.noSelect_spec hs) hig (.inl fun _ => trivial) (fun c a w h => hQ c a w _ _ h) l.len listed a w hcl hfr hr (Or.inr ⟨h.1, rfl⟩) trivial hSl
        (ih _ _ _ _ hI' hcl' k6 (fun hg => hS (by rw [gbit i hig] at hg; exact hg)) h.2)
    rw [if_neg c1] at h
    by_cases c2 : k = 2
    · subst c2
      rw [if_pos rfl] at h
      simp only [if_neg c0, if_true, Bool.and_eq_true, bne_iff_ne, Bool.not_eq_true'] at k5
      refine ⟨fun e => (by rw [e] at hr; cases hr), fun j hj => ?_⟩
      obtain rfl := only (Or.inl rfl) j hj
      exact wpOp_mono (fun a' w' h' => ⟨fun _ _ => h'.1, ih _ _ _ _ hI' hcl' k6 (fun _ => h'.1) h'.2⟩) h
    rw [if_neg c2] at h
    by_cases c3 : k = 3
    · subst c3
      obtain ⟨hig, hfr⟩ := hfree (by omega)
      rw [if_pos rfl] at h
      obtain ⟨v, ⟨hw, hv⟩, h⟩ := h
      exact wpAnyG_first (T := fun _ => True) ho (Region.noSelect_spec hs) hig (.inl fun _ => trivial) (fun c a w h => hQ c a w _ _ h) l.len listed a w hcl hfr hr (Or.inl ⟨hw, fun w _ => hv w⟩) trivial hSl
        (ih _ _ _ _ hI' hcl' k6 (fun hg => hS (by rw [gbit i hig] at hg; exact hg)) h)
    rw [if_neg c3] at h
    obtain ⟨c4, h⟩ := h
    subst c4
    simp only [if_neg c0, if_neg c2, if_true, Bool.or_eq_true, beq_iff_eq] at k5
    refine ⟨fun e => (by rw [e] at hr; cases hr), fun j hj => ?_⟩
    obtain rfl := only (Or.inr rfl) j hj
    have hdone : (done ||| 2 ^ j).testBit g = true := by
      rw [Nat.testBit_or, testBit_pow]
      rcases k5 with rfl | k5
      · simp
      · rw [k5]; rfl
    have hls : listed.getD g false = false → j = g := fun hg => by
      rcases k5 with k5 | k5
      · exact k5
      · rw [hI.getF, k5] at hg; cases hg
    exact wpOp_mono (fun a' w' h' => ⟨fun hjg hg => absurd (hls hg) hjg, ih _ _ _ _ hI' hcl' k6 (fun hg => by rw [hdone] at hg; cases hg) h'⟩) h
/-- The beginning: the order, and that it may be. -/
theorem wp_region_fork {P : Program} {ops : Array Oper} {Q : Exit → Act → World → Prop} {S : World → Prop} {id : Nat} {a : Act} {w : World} (g : Nat) (l : Ord) (am cf later : List Nat) (hm : P.follows .mixedOrders = true)
    (hk : (Region.noSelect ops && decide (l.len = ops.size) && decide (g < ops.size) && decide (ops.toList.map (amOf .any) = am) && decide (cfAll .any ops ops.toList 0 = cf) && seqOkF ops.size g am cf later l 0) = true)
    (hQ : ∀ c a w d v, Q (.panic c) (Act.put a d v) w → Q (.panic c) a w) (hS : S w.drew)
    (h : S w.drew → wpSeqF P ops Q S l a w.drew) : (Code.region id ops true).wp P Q a w := by
  simp only [Bool.and_eq_true, decide_eq_true_eq] at hk
  obtain ⟨⟨⟨⟨⟨h1, h2⟩, hg⟩, h3⟩, h4⟩, h5⟩ := hk
  refine wp_region_any hm ?_
  rw [← h2]
  refine wpAny_of_gate (S := S) (g := g) _ _ _ _ ?_
  have := wpAnyF_seq (P := P) (md := .any) (S := S) g am cf later hg h3 h4 h1 hQ l 0 (Array.replicate ops.size false) a w.drew (Inv.start _) (fun j oj hj hl => by
    rw [Array.getD_eq_getD_getElem?, Array.getElem?_replicate] at hl
    split at hl <;> simp at hl) h5 (fun _ => hS) (h hS)
  rw [h2] at this ⊢
  exact this
theorem wpSeqF_take {P : Program} {ops : Array Oper} {Q : Exit → Act → World → Prop} {S : World → Prop} {l : Ord} {t : List Value} {df : List _} {w : World} {i d : Nat} {o : Oper} {v : Value}
    (ho : ops.toList[i]? = some o) (hd : o.dst = some d) (hw : Region.wanted o (yielded ops t.toArray) = true)
    (hy : ∀ w, S w → (execOp (Act.eval { tmps := t.toArray, defers := df }) o).run P w = .ok (.value v) w)
    (h : wpSeqF P ops Q S l { tmps := (t.set d v).toArray, defers := df } w) : wpSeqF P ops Q S (.step i 0 l) { tmps := t.toArray, defers := df } w := by
  refine ⟨o, by rw [← Array.getElem?_toList]; exact ho, ?_⟩
  rw [if_pos rfl]
  refine ⟨v, ⟨hw, hy⟩, ?_⟩
  have e : Act.put { tmps := t.toArray, defers := df } o.dst v = { tmps := (t.set d v).toArray, defers := df } := by
    rw [hd]; simp [Act.put]
  rw [e]
  exact h
theorem wpSeqF_free {P : Program} {ops : Array Oper} {Q : Exit → Act → World → Prop} {S : World → Prop} {l : Ord} {t : List Value} {df : List _} {w : World} {i d : Nat} {o : Oper} {v : Value}
    (ho : ops.toList[i]? = some o) (hd : o.dst = some d) (hw : Region.wanted o (yielded ops t.toArray) = true)
    (hy : ∀ w, (execOp (Act.eval { tmps := t.toArray, defers := df }) o).run P w = .ok (.value v) w)
    (h : wpSeqF P ops Q S l { tmps := (t.set d v).toArray, defers := df } w) : wpSeqF P ops Q S (.step i 3 l) { tmps := t.toArray, defers := df } w := by
  refine ⟨o, by rw [← Array.getElem?_toList]; exact ho, ?_⟩
  rw [if_neg (by decide), if_neg (by decide), if_neg (by decide), if_pos rfl]
  refine ⟨v, ⟨hw, hy⟩, ?_⟩
  have e : Act.put { tmps := t.toArray, defers := df } o.dst v = { tmps := (t.set d v).toArray, defers := df } := by
    rw [hd]; simp [Act.put]
  rw [e]
  exact h
theorem wpSeqF_call {P : Program} {ops : Array Oper} {Q : Exit → Act → World → Prop} {S : World → Prop} {l : Ord} {a : Act} {w : World} {i : Nat} {o : Oper}
    (ho : ops.toList[i]? = some o) (hw : Region.wanted o (yielded ops a.tmps) = true)
    (h : ∀ K' : Act → World → Prop, Shut (∀ a w, S w → (S w → wpSeqF P ops Q S l a w) → K' a w) → Oper.wp P o a w K' Q) : wpSeqF P ops Q S (.step i 2 l) a w := by
  rw [Array.getElem?_toList] at ho
  refine ⟨o, ho, ?_⟩
  rw [if_neg (by decide), if_neg (by decide), if_pos rfl]
  refine wpOp_step ho fun K' hK => ?_
  rw [if_pos hw]
  exact h K' fun a w hS h => hK a w ⟨hS, h hS⟩
theorem wpSeqF_gate {P : Program} {ops : Array Oper} {Q : Exit → Act → World → Prop} {S : World → Prop} {l : Ord} {a : Act} {w : World} {i : Nat} {o : Oper}
    (ho : ops.toList[i]? = some o) (hw : Region.wanted o (yielded ops a.tmps) = true)
    (h : ∀ K' : Act → World → Prop, Shut (∀ a w, wpSeqF P ops Q S l a w → K' a w) → Oper.wp P o a w K' Q) : wpSeqF P ops Q S (.step i 4 l) a w := by
  rw [Array.getElem?_toList] at ho
  refine ⟨o, ho, ?_⟩
  rw [if_neg (by decide), if_neg (by decide), if_neg (by decide), if_neg (by decide)]
  refine ⟨rfl, wpOp_step ho fun K' hK => ?_⟩
  rw [if_pos hw]
  exact h K' fun a w h => hK a w h
theorem wpSeqF_done {P : Program} {ops : Array Oper} {Q : Exit → Act → World → Prop} {S : World → Prop} {a : Act} {w : World} (h : Q .normal a w) : wpSeqF P ops Q S .done a w := h
theorem wpSeqF_fork {P : Program} {ops : Array Oper} {Q : Exit → Act → World → Prop} {S : World → Prop} {l r : Ord} {a : Act} {w : World} {i j : Nat} {o o' : Oper}
    (ho : ops.toList[i]? = some o) (ho' : ops.toList[j]? = some o') (hw : Region.wanted o (yielded ops a.tmps) = true) (hw' : Region.wanted o' (yielded ops a.tmps) = true)
    (h : ∀ K' : Act → World → Prop, Shut (∀ a w, S w → (S w → wpSeqF P ops Q S l a w) → K' a w) → Oper.wp P o a w K' Q)
    (h' : ∀ K' : Act → World → Prop, Shut (∀ a w, S w → (S w → wpSeqF P ops Q S r a w) → K' a w) → Oper.wp P o' a w K' Q) : wpSeqF P ops Q S (.fork i l j r) a w := by
  rw [Array.getElem?_toList] at ho ho'
  refine ⟨wpOp_step ho fun K' hK => ?_, wpOp_step ho' fun K' hK => ?_⟩
  · rw [if_pos hw]
    exact h K' fun a w hS h => hK a w ⟨hS, h hS⟩
  · rw [if_pos hw']
    exact h' K' fun a w hS h => hK a w ⟨hS, h hS⟩
end Go.Proofs.Ytglniapfnhedoaa

namespace Go.Proofs.Ytglniapfnhedoaa
open Go.RowKit
def RightC : Prop := ∀ (v : Value) (l : List Sec) (w : World), IsSecs w v l → Calls Try.prog 21 #[v] w fun e w' => e = .returned (.bool (rightS l)) ∧ B w w'
/-- Its sides are those of a piece. -/
def soundS (s : Sec) : Bool := boundS s && (s.a1 != 0) && (if s.r then (s.b0 == 0) && (s.b1 == 0) else decide (0 < s.b1))
set_option maxHeartbeats 1000000 in
theorem sound_any (r : Bool) (h a0 b0 a1 b1 : Int) (w : World) :
    Calls Try.prog 38 #[.agg #[.bool r, .int .i64 h, .int .i64 a0, .int .i64 b0, .int .i64 a1, .int .i64 b1]] w fun e w' => e = .returned (.bool (soundS ⟨r, h, a0, b0, a1, b1⟩)) ∧ Q w w' := by
  have cB := fun w => bounded_any r h a0 b0 a1 b1 w
  have hS : soundS ⟨r, h, a0, b0, a1, b1⟩ = (boundS ⟨r, h, a0, b0, a1, b1⟩ && (a1 != 0) && (if r then (b0 == 0) && (b1 == 0) else decide (0 < b1))) := rfl
  generalize boundS ⟨r, h, a0, b0, a1, b1⟩ = B0 at *
  rw [hS]
  clear hS
  have hA : ((a1 == 0) = true ∧ (a1 != 0) = false) ∨ ((a1 == 0) = false ∧ (a1 != 0) = true) := by by_cases a1 = 0 <;> simp [*]
  have hZ : (b0 == 0) = true ∨ (b0 == 0) = false := by cases (b0 == 0) <;> simp
  cases B0
  · simp only [Bool.false_and]
    go_enter Try.func38, Try.ntmps38
    go_wp2_with fail
    refine (cB _).mono ?_
    rintro e w1 ⟨rfl, g⟩
    replace g := ((Q.refl w).alloc _ _).trans g
    go_wp2
    go_ret
    exact ⟨rfl, g⟩
  rcases hA with ⟨a2, a3⟩ | ⟨a2, a3⟩
  · rw [a3]
    simp only [Bool.false_and, Bool.and_false]
    go_enter Try.func38, Try.ntmps38
    go_wp2_with fail
    refine (cB _).mono ?_
    rintro e w1 ⟨rfl, g⟩
    have z4 := g.keep (p := ⟨w.heap.size, 4, none⟩) (v := .int .i64 a1) (by simp [go_sem])
    replace g := ((Q.refl w).alloc _ _).trans g
    go_wp2
    go_ret
    exact ⟨rfl, g⟩
  rw [a3]
  cases r
  · go_enter Try.func38, Try.ntmps38
    go_wp2_with fail
    refine (cB _).mono ?_
    rintro e w1 ⟨rfl, g⟩
    have z0 := g.keep (p := ⟨w.heap.size, 0, none⟩) (v := .bool false) (by simp [go_sem])
    have z1 := g.keep (p := ⟨w.heap.size, 1, none⟩) (v := .int .i64 h) (by simp [go_sem])
    have z2 := g.keep (p := ⟨w.heap.size, 2, none⟩) (v := .int .i64 a0) (by simp [go_sem])
    have z3 := g.keep (p := ⟨w.heap.size, 3, none⟩) (v := .int .i64 b0) (by simp [go_sem])
    have z4 := g.keep (p := ⟨w.heap.size, 4, none⟩) (v := .int .i64 a1) (by simp [go_sem])
    have z5 := g.keep (p := ⟨w.heap.size, 5, none⟩) (v := .int .i64 b1) (by simp [go_sem])
    replace g := ((Q.refl w).alloc _ _).trans g
    go_wp2
    go_ret
    exact ⟨by simp, g⟩
  rcases hZ with hZ | hZ
  all_goals
    rw [hZ]
    go_enter Try.func38, Try.ntmps38
    go_wp2_with fail
    refine (cB _).mono ?_
    rintro e w1 ⟨rfl, g⟩
    have z0 := g.keep (p := ⟨w.heap.size, 0, none⟩) (v := .bool true) (by simp [go_sem])
    have z1 := g.keep (p := ⟨w.heap.size, 1, none⟩) (v := .int .i64 h) (by simp [go_sem])
    have z2 := g.keep (p := ⟨w.heap.size, 2, none⟩) (v := .int .i64 a0) (by simp [go_sem])
    have z3 := g.keep (p := ⟨w.heap.size, 3, none⟩) (v := .int .i64 b0) (by simp [go_sem])
    have z4 := g.keep (p := ⟨w.heap.size, 4, none⟩) (v := .int .i64 a1) (by simp [go_sem])
    have z5 := g.keep (p := ⟨w.heap.size, 5, none⟩) (v := .int .i64 b1) (by simp [go_sem])
    replace g := ((Q.refl w).alloc _ _).trans g
    go_wp2
    go_ret
    exact ⟨by simp, g⟩
theorem secOk_sound (s : Sec) (m : Int) (hm : s.h.tmod 100 = m) : secOk s = (!(decide (s.h < 1)) && !(decide (60000 < s.h)) && !(m != 0) && soundS s) := by
  rw [secOk_eq s m hm]
  have e : soundS s = (inB s.a0 0 20000 && inB s.a1 1 20000 && (if s.r then !(s.b0 != 0) && !(s.b1 != 0) else inB s.b0 0 20000 && inB s.b1 1 20000)) := by
    unfold soundS boundS inB
    cases hr : s.r
    · rw [Bool.eq_iff_iff]
      simp
      omega
    · rw [Bool.eq_iff_iff]
      simp
      omega
  rw [e]
  simp only [Bool.and_assoc]
theorem hsum_mono (l : List Sec) (hl : ∀ s ∈ l, 0 ≤ s.h) (j n : Nat) (hjn : j ≤ n) : hsumI l j ≤ hsumI l n := by
  induction n with
  | zero => obtain rfl : j = 0 := by omega
            omega
  | succ n ih =>
    by_cases e : j = n + 1
    · subst e; omega
    · have h1 := ih (by omega)
      cases hg : l[n]? with
      | none =>
        have e1 : l.take (n + 1) = l.take n := by rw [List.take_add_one, hg]; simp
        unfold hsumI at *
        rw [e1]; exact h1
      | some s =>
        have := hl s (List.mem_of_getElem? hg)
        rw [hsumI_succ l n s hg]
        omega
theorem rightS_over (l : List Sec) (k : Nat) (s : Sec) (h : l[k]? = some s) (ho : 60000 < hsumI l k + s.h) : rightS l = false := by
  cases e : rightS l
  · rfl
  · unfold rightS at e
    simp only [Bool.and_eq_true, decide_eq_true_eq, List.all_eq_true] at e
    obtain ⟨⟨_, ha⟩, hs⟩ := e
    have hk : k < l.length := by
      rw [List.getElem?_eq_some_iff] at h
      exact h.1
    have := hsum_mono l (fun s hs => by have := secOk_h s (ha s hs); omega) (k + 1) l.length (by omega)
    rw [hsumI_succ l k s h] at this
    omega
set_option maxRecDepth 100000 in
set_option maxHeartbeats 2000000 in
theorem right_row (a : Addr) (cap : Nat) (l : List Sec) (h2 : l.length ≤ cap) (h3 : cap ≤ maxLen) (w : World) (h4 : ∀ i s, l[i]? = some s → s.I ∧ SecAt w (a.add (i * 6)) s) :
    Calls Try.prog 21 #[.slice (some a) l.length cap] w fun e w' => e = .returned (.bool (rightS l)) ∧ Q w w' := by
  unfold maxLen at h3
  have h5 : l.length ≤ 2 ^ 63 - 1 := Nat.le_trans h2 h3
  clear h2 h3
  by_cases n1 : l.length < 1
  · rw [rightS_short l n1]
    have n1B : decide ((l.length : Int) < 1) = true := decide_eq_true (by omega)
    clear h4
    go_enter Try.func21, Try.ntmps21
    go_wp2
    go_ret
    exact ⟨rfl, Q.refl w⟩
  have n1B : decide ((l.length : Int) < 1) = false := decide_eq_false (by omega)
  by_cases n2 : 4 < l.length
  · rw [rightS_long l n2]
    have n2B : decide ((4 : Int) < (l.length : Int)) = true := decide_eq_true (by omega)
    clear h4
    go_enter Try.func21, Try.ntmps21
    go_wp2
    go_ret
    exact ⟨rfl, Q.refl w⟩
  have n2B : decide ((4 : Int) < (l.length : Int)) = false := decide_eq_false (by omega)
  go_enter Try.func21, Try.ntmps21
  go_wp2
  go_loopw [3, 16] (fun lf i wr => ∃ (k : Nat), k ≤ l.length ∧ i = .int .i64 k ∧ lf = .int .i64 (60000 - hsumI l k) ∧ 0 ≤ hsumI l k ∧ hsumI l k ≤ 60000 ∧ okTo l k = true ∧ Q w wr) (fun _ i _ => l.length - (intOf i).toNat)
  case atStart => exact ⟨0, Nat.zero_le _, rfl, rfl, by simp [hsumI], by simp [hsumI], rfl, Q.refl w⟩
  case round =>
    obtain ⟨k, hk, rfl, rfl, t1, t2, hok, hq⟩ := hrel
    by_cases hl : k < l.length
    · have hlB : decide (k < l.length) = true := decide_eq_true hl
      have hg := List.getElem?_eq_getElem hl
      have hs := (h4 k _ hg).2.keep hq
      have hsu := hsumI_succ l k _ hg
      have hoku := okTo_succ l k _ hg hok
      have hbad := rightS_bad l k _ hg
      have hover := rightS_over l k _ hg
      clear h4 hok
      generalize l[k] = s at *
      generalize hsumI l k = t at *
      obtain ⟨r, h, a0, b0, a1, b1⟩ := s
      obtain ⟨f0, f1, f2, f3, f4, f5⟩ := hs
      obtain ⟨m, hm1⟩ : ∃ m, h.tmod 100 = m := ⟨_, rfl⟩
      have hsec := secOk_sound ⟨r, h, a0, b0, a1, b1⟩ m hm1
      have cS := fun w => sound_any r h a0 b0 a1 b1 w
      obtain ⟨lf, hlf⟩ : ∃ lf, 60000 - t = lf := ⟨_, rfl⟩
      rw [hlf]
      simp only at f0 f1 f2 f3 f4 f5 hsu hsec hover
      have HS := Lib.hid hsu
      have HM := Lib.hid hg
      clear hsu hg
      by_cases k1' : h < 1
      · have k1 : decide (h < 1) = true := decide_eq_true k1'
        have HB := Lib.hid (hbad (by rw [hsec]; simp [k1]))
        clear hbad hsec hoku hover cS
        go_wp2
        go_ret
        exact ⟨by rw [HB.out]; rfl, hq.alloc _ _⟩
      have k1 : decide (h < 1) = false := decide_eq_false k1'
      by_cases k2' : lf < h
      · have k2 : decide (lf < h) = true := decide_eq_true k2'
        have HB := Lib.hid (hover (by omega))
        clear hbad hsec hoku hover cS
        go_wp2
        go_ret
        exact ⟨by rw [HB.out]; rfl, hq.alloc _ _⟩
      have k2 : decide (lf < h) = false := decide_eq_false k2'
      have k2b : decide (60000 < h) = false := decide_eq_false (by omega)
      have k3 : (m != 0) = true ∨ (m != 0) = false := by cases (m != 0) <;> simp
      rcases k3 with k3 | k3
      · have HB := Lib.hid (hbad (by rw [hsec]; simp [k1, k2b, k3]))
        clear hbad hsec hoku hover cS k2b
        go_wp2
        go_ret
        exact ⟨by rw [HB.out]; rfl, hq.alloc _ _⟩
      generalize soundS ⟨r, h, a0, b0, a1, b1⟩ = s0 at *
      cases s0
      · have HB := Lib.hid (hbad (by rw [hsec]; simp))
        clear hbad hsec hoku hover k2b
        go_wp2_with fail
        refine (cS _).mono ?_
        rintro e w1 ⟨rfl, g⟩
        replace g := (hq.alloc _ _).trans g
        go_wp2
        go_ret
        exact ⟨by rw [HB.out]; rfl, g⟩
      · have HO := Lib.hid (hoku (by rw [hsec]; simp [k1, k2b, k3]))
        have e1 : IntKind.i64.wrap (lf - h) = lf - h := wrapI (by omega) (by omega)
        clear hbad hsec hoku hover k2b
        go_wp2_with fail
        refine (cS _).mono ?_
        rintro e w1 ⟨rfl, g⟩
        have z1 := g.keep (p := ⟨wr.heap.size, 1, none⟩) (v := .int .i64 h) (by simp [go_sem])
        replace g := (hq.alloc _ _).trans g
        go_wp2
        go_roundw
        case rel => exact ⟨k + 1, by omega, by go_num, by rw [HS.out]; congr 1; omega, by rw [HS.out]; omega, by rw [HS.out]; omega, HO.out, g⟩
        case measure => simp [intOf]; omega
    · have hlB : decide (k < l.length) = false := decide_eq_false hl
      obtain rfl : k = l.length := by omega
      have HE := Lib.hid ((rightS_end l (by omega) (by omega) hok).trans (decide_eq_true t2))
      clear h4 hok
      go_wp2
      go_ret
      exact ⟨by rw [HE.out]; rfl, hq⟩
theorem right_code : RightC := by
  intro v l w hv
  rcases hv with ⟨rfl, rfl⟩ | ⟨a, cap, rfl, h2, h3, h4⟩
  · rw [rightS_short [] (by simp)]
    go_enter Try.func21, Try.ntmps21
    go_wp2
    go_ret
    exact ⟨rfl, B.refl w⟩
  · exact (right_row a cap l h2 h3 w h4).mono fun _ _ h => ⟨h.1, h.2.b⟩
end Go.Proofs.Ytglniapfnhedoaa
