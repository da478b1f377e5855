/-
  Layer 6: a cache in memory: its counts, its map, its entries.
-/
import Derived.Test.YtppiocopokbdlaaDoorG
import Derived.Test.YtppiocopokbdlaaDoorKeym
import Derived.Test.YtppiocopokbdlaaDoorChecked
import Derived.Maps.OwnSet
import Derived.Maps.Views
namespace Go.Proofs.YtppiocopokbdlaaDoor
open Go.RowKit Go.Maps

/-- An entry: its shape, its block, its table, the blocks in which that lies. -/
structure Ent where
  l : List Sec
  b : Nat
  p : Value
  lo : Nat
  hi : Nat
/-- How a pointer among a map's elements reads: the number of its block. -/
def ptrElem : Value → Option (DataW Unit × List MemPlace)
  | .pointer none => some (.nil, [])
  | .pointer (some ⟨b, 0, none⟩) => some (.lit (.int .i64 b), [])
  | _ => none
theorem ptrElem_at (b : Nat) : ptrElem (.pointer (some ⟨b, 0, none⟩)) = some (.lit (.int .i64 b), []) := rfl
theorem ptrElem_nil {v : Value} {ps : List MemPlace} (h : ptrElem v = some (.nil, ps)) : v = .pointer none := by
  unfold ptrElem at h
  split at h
  · rfl
  · cases h
  · cases h
theorem ptrElem_lit {v : Value} {ps : List MemPlace} {b : Nat} (h : ptrElem v = some (.lit (.int .i64 b), ps)) : v = .pointer (some ⟨b, 0, none⟩) := by
  unfold ptrElem at h
  split at h
  · cases h
  · rename_i b'
    simp only [Option.some.injEq, Prod.mk.injEq, DataW.lit.injEq, Lit.int.injEq, true_and] at h
    have : b' = b := by omega
    rw [this]
  · cases h

/-- What a cache's map holds at a shape's key. -/
def entD (E : List Ent) (l : List Sec) : DataW Unit :=
  match E.find? (fun e => decide (e.l = l)) with
  | some e => .lit (.int .i64 e.b)
  | none => .nil
theorem entD_none {E : List Ent} {l : List Sec} (h : ∀ e ∈ E, e.l ≠ l) : entD E l = .nil := by
  unfold entD
  rw [List.find?_eq_none.2 (fun e he => by simpa using h e he)]
theorem entD_some : ∀ {E : List Ent} {l : List Sec} {e : Ent}, e ∈ E → e.l = l → E.Pairwise (fun a b => a.l ≠ b.l) → entD E l = .lit (.int .i64 e.b)
  | x :: E, l, e, he, hl, hp => by
    unfold entD
    rw [List.pairwise_cons] at hp
    rcases List.mem_cons.1 he with rfl | he'
    · rw [List.find?_cons_of_pos (by simpa using hl)]
    · have hx : x.l ≠ l := fun h => hp.1 e he' (h.trans hl.symm)
      rw [List.find?_cons_of_neg (by simpa using hx)]
      exact entD_some he' hl hp.2
theorem entD_snoc (E : List Ent) (x : Ent) (h : ∀ e ∈ E, e.l ≠ x.l) (l : List Sec) : entD (E ++ [x]) l = if l = x.l then .lit (.int .i64 x.b) else entD E l := by
  unfold entD
  rw [List.find?_append]
  by_cases c : l = x.l
  · subst c
    rw [if_pos rfl, List.find?_eq_none.2 (fun e he => by simpa using h e he)]
    simp
  · rw [if_neg c]
    have : [x].find? (fun e => decide (e.l = l)) = none := by simp [Ne.symm c]
    rw [this]
    cases E.find? (fun e => decide (e.l = l)) <;> rfl

/-- An entry, its table made. -/
structure EntAt (T : World → Value → List (Int × Int) → Prop) (base : Nat) (w : World) (e : Ent) : Prop where
  obj : w.heap[e.b]? = some (.cells #[.int .u32 1, .int .i32 0, .int .u32 0, e.p] 72 (0, 0))
  tab : TabN T e.lo e.hi w e.p (slAll e.l)
  right : rightS e.l = true
  low : base ≤ e.b
  ord : e.b < e.lo
theorem EntAt.g {T : World → Value → List (Int × Int) → Prop} {base : Nat} {w w' : World} {e : Ent} {S : Nat → Prop} (h : EntAt T base w e) (q : G S w w') (hS : ∀ i, S i → i < base) : EntAt T base w' e :=
  ⟨q.obj (fun hs => by have := hS _ hs; have := h.low; omega) h.obj, q.tabN h.tab (fun i h1 h2 hs => by have := hS i hs; have := h.low; have := h.ord; omega), h.right, h.low, h.ord⟩

/-- The cache in block c, its map in block bm: asked n times, m tables made, k entries, F at each shape's key; E: those whose table is made. -/
structure CacheM (T : World → Value → List (Int × Int) → Prop) (w : World) (c bm base n m k : Nat) (F : List Sec → DataW Unit) (E : List Ent) : Prop where
  obj : w.heap[c]? = some (.cells #[.int .i64 n, .int .i64 m, .int .i32 0, .int .u32 0, .map (some bm)] 62 (0, 0))
  map : ∃ D, w.ownsMap Tryd.prog 9 ptrElem bm k D ∧ ∀ l, D.atKey (.string (keyText l)) .nil = F l
  lt : bm < c
  lb : c < base
  le : base ≤ w.heap.size
  ents : ∀ e ∈ E, EntAt T base w e
  apart : E.Pairwise fun a b => a.l ≠ b.l ∧ a.hi ≤ b.b
/-- At rest. -/
def CacheC (T : World → Value → List (Int × Int) → Prop) (w : World) (c bm base n : Nat) (E : List Ent) : Prop := CacheM T w c bm base n E.length E.length (entD E) E
/-- The cache's own blocks. -/
def CS (c bm : Nat) (i : Nat) : Prop := i = c ∨ i = bm

section
variable {T : World → Value → List (Int × Int) → Prop} {w w' : World} {c bm base n m k : Nat} {F : List Sec → DataW Unit} {E : List Ent}
theorem CacheM.cs (h : CacheM T w c bm base n m k F E) : ∀ i, CS c bm i → i < base := fun i hi => by
  have := h.lt; have := h.lb
  rcases hi with rfl | rfl <;> omega
theorem CacheM.apartG {S : Nat → Prop} (h : CacheM T w c bm base n m k F E) (q : G S w w') (hS : ∀ i, S i → i ≠ c ∧ i ≠ bm ∧ ∀ e ∈ E, i ≠ e.b ∧ (i < e.lo ∨ e.hi ≤ i)) : CacheM T w' c bm base n m k F E := by
  obtain ⟨D, hD, hF⟩ := h.map
  refine ⟨q.obj (fun hs => (hS _ hs).1 rfl) h.obj, ⟨D, ?_, hF⟩, h.lt, h.lb, Nat.le_trans h.le q.size, fun e he => ?_, h.apart⟩
  · obtain ⟨es, clock, hb, r⟩ := hD
    exact ⟨es, clock, q.obj (fun hs => (hS _ hs).2.1 rfl) hb, r⟩
  · have he' := h.ents e he
    exact ⟨q.obj (fun hs => ((hS _ hs).2.2 e he).1 rfl) he'.obj, q.tabN he'.tab (fun i h1 h2 hs => by have := ((hS i hs).2.2 e he).2; omega), he'.right, he'.low, he'.ord⟩
theorem CacheM.g {S : Nat → Prop} (h : CacheM T w c bm base n m k F E) (q : G S w w') (hS : ∀ i, S i → i < base ∧ i ≠ c ∧ i ≠ bm) : CacheM T w' c bm base n m k F E :=
  h.apartG q fun i hi => ⟨(hS i hi).2.1, (hS i hi).2.2, fun e he => by
    have := h.ents e he
    have h1 := this.low
    have h2 := this.ord
    have h3 := (hS i hi).1
    exact ⟨by omega, by omega⟩⟩
theorem CacheM.his (h : CacheM T w c bm base n m k F E) : ∀ e ∈ E, e.b < e.lo ∧ e.lo < e.hi ∧ e.hi ≤ w.heap.size := fun e he => by
  have h1 := h.ents e he
  obtain ⟨x, _, y1, y2⟩ := h1.tab.at_
  exact ⟨h1.ord, by omega, h1.tab.held.le⟩
theorem CacheM.keepB (h : CacheM T w c bm base n m k F E) (q : B w w') : CacheM T w' c bm base n m k F E := h.g (q.g (fun _ => False)) (fun _ h => h.elim)
/-- No bool lies in the cache's own blocks. -/
theorem CacheM.noBool (h : CacheM T w c bm base n m k F E) : ∀ i, CS c bm i → ∀ j r, w.cell? ⟨i, j, none⟩ ≠ some (.bool r) := by
  intro i hi j r
  rcases hi with rfl | rfl
  · rw [obj_cell h.obj]
    match j with
    | 0 => simp
    | 1 => simp
    | 2 => simp
    | 3 => simp
    | 4 => simp
    | j + 5 => simp
  · obtain ⟨D, ⟨es, clock, hb, _⟩, _⟩ := h.map
    rw [obj_map hb]
    simp
theorem CacheM.secs {v : Value} {l : List Sec} (h : CacheM T w c bm base n m k F E) (hv : IsSecs w v l) (q : G (CS c bm) w w') : IsSecs w' v l := isSecs_keepG hv h.noBool q
/-- Its own block is written: the world behind is the one in which the lock, or a count, holds something else. -/
theorem one_own (w : World) (c j : Nat) (v : Value) : G (fun i => i = c) w (w.setCell ⟨c, j, none⟩ v) := (G.refl (fun i => i = c) w).setCell (p := ⟨c, j, none⟩) (.inl rfl) v
theorem cs_own (w : World) (c bm j : Nat) (v : Value) : G (CS c bm) w (w.setCell ⟨c, j, none⟩ v) := (G.refl _ w).setCell (.inl (.inl rfl)) v
theorem CacheM.put (h : CacheM T w c bm base n m k F E) {w' : World} {n' m' : Nat} (q : G (fun i => i = c) w w') (ho : w'.heap[c]? = some (.cells #[.int .i64 n', .int .i64 m', .int .i32 0, .int .u32 0, .map (some bm)] 62 (0, 0))) :
    CacheM T w' c bm base n' m' k F E := by
  obtain ⟨D, hD, hF⟩ := h.map
  have h1 := h.lt
  have h2 := h.lb
  refine ⟨ho, ⟨D, ?_, hF⟩, h.lt, h.lb, Nat.le_trans h.le q.size, fun e he => (h.ents e he).g q (fun i hi => by omega), h.apart⟩
  obtain ⟨es, clock, hb, r⟩ := hD
  exact ⟨es, clock, q.obj (by omega) hb, r⟩
theorem CacheM.pairL (h : CacheM T w c bm base n m k F E) : E.Pairwise fun a b => a.l ≠ b.l := h.apart.imp fun h => h.1
end

/-- Two entries' tables are two. -/
theorem ent_ne {T : World → Value → List (Int × Int) → Prop} {base : Nat} {w : World} {a b : Ent} (ha : EntAt T base w a) (hb : EntAt T base w b) (h : a.hi ≤ b.b) : a.p ≠ b.p := by
  obtain ⟨x, e1, x1, x2⟩ := ha.tab.at_
  obtain ⟨y, e2, y1, y2⟩ := hb.tab.at_
  have := hb.ord
  rw [e1, e2]
  intro e
  simp only [Value.pointer.injEq, Option.some.injEq, Addr.mk.injEq] at e
  omega
/-- An entry that is made is one more. -/
theorem CacheM.more {T : World → Value → List (Int × Int) → Prop} {w : World} {c bm base n : Nat} {E : List Ent} {x : Ent} (hn : ∀ e ∈ E, e.l ≠ x.l)
    (h : CacheM T w c bm base n (E.length + 1) (E.length + 1) (fun l => if l = x.l then .lit (.int .i64 x.b) else entD E l) E) (hx : EntAt T base w x) (hb : ∀ e ∈ E, e.hi ≤ x.b) : CacheC T w c bm base n (E ++ [x]) := by
  have e1 : (E ++ [x]).length = E.length + 1 := by simp
  unfold CacheC
  rw [e1]
  obtain ⟨D, hD, hF⟩ := h.map
  refine ⟨h.obj, ⟨D, hD, fun l => (hF l).trans (entD_snoc E x hn l).symm⟩, h.lt, h.lb, h.le, fun e he => ?_, ?_⟩
  · rcases List.mem_append.1 he with he | he
    · exact h.ents e he
    · rw [List.mem_singleton] at he
      subst he
      exact hx
  · rw [List.pairwise_append]
    refine ⟨h.apart, List.pairwise_singleton _ _, fun a ha b hb' => ?_⟩
    rw [List.mem_singleton] at hb'
    subst hb'
    exact ⟨hn a ha, hb a ha⟩
end Go.Proofs.YtppiocopokbdlaaDoor
