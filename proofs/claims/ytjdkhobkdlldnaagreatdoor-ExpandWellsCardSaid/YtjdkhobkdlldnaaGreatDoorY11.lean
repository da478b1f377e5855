/-
  Layer 11: a deck in new memory; A shape's key, as bytes: two shapes have one just if they are the same. No program is named here; Layer 6: a cache in memory: its counts, its map, its entries; The code's names: a map of what stands; add; Layer 11: a board in memory: its deck, its cache, its things by their names; The code's cache: a new one.
-/
import Derived.Lib.ItoaMem
import Derived.Lib.ItoaLen
import Derived.Maps.OwnSet
import Derived.Maps.OwnOps
import Derived.WalkSpells
import Derived.Carry
import Derived.Test.YtjdkhobkdlldnaaGreatDoorChecked
import Derived.Maps.Views
import Derived.Test.YtjdkhobkdlldnaaGreatDoorY1
import Derived.Test.YtjdkhobkdlldnaaGreatDoorY2
import Derived.Test.YtjdkhobkdlldnaaGreatDoorY3
import Derived.Test.YtjdkhobkdlldnaaGreatDoorY4
import Derived.Test.YtjdkhobkdlldnaaGreatDoorY5
import Derived.Test.YtjdkhobkdlldnaaGreatDoorY6
import Derived.Test.YtjdkhobkdlldnaaGreatDoorY10
namespace Go.Proofs.YtjdkhobkdlldnaaGreatDoor
open Go.RowKit
set_option linter.unusedVariables false
/-- A deck that the call owns: rows inside of rows. -/
structure OwnD (w : World) (base : Nat) (wv tv fv : Value) (d : Dk) (ss tt : List Value) : Prop where
  ws : w.ownsRow base 33 5 wv d.ws.length (flatR d.ws ss)
  ts : w.ownsRow base 35 5 tv d.ts.length (flatR d.ts tt)
  fs : w.ownsRow base 41 4 fv d.fs.length (flatF d.fs)
  sl : ss.length = d.ws.length
  tl : tt.length = d.ts.length
  sh : ∀ (i : Nat) r v, d.ws[i]? = some r → ss[i]? = some v → w.ownsRow base 37 6 v r.l.length (flat r.l)
  th : ∀ (i : Nat) r v, d.ts[i]? = some r → tt[i]? = some v → w.ownsRow base 37 6 v r.l.length (flat r.l)
  wi : ∀ r ∈ d.ws, ∀ s ∈ r.l, s.I
  ti : ∀ r ∈ d.ts, ∀ s ∈ r.l, s.I
theorem OwnD.dk {w : World} {base : Nat} {wv tv fv : Value} {d : Dk} {ss tt : List Value} (h : OwnD w base wv tv fv d ss tt) : IsDk w wv tv fv d :=
  ⟨isRecs_own h.ws h.sl.symm (fun i r v hr hv => isSecs_own (h.sh i r v hr hv) (h.wi r (List.mem_of_getElem? hr))),
    isRecs_own h.ts h.tl.symm (fun i r v hr hv => isSecs_own (h.th i r v hr hv) (h.ti r (List.mem_of_getElem? hr))), isFls_own h.fs⟩
theorem own_on {w w' : World} {base e size n : Nat} {v : Value} {xs : List Value} (h : w.ownsRow base e size v n xs) (hb : ∀ i, base ≤ i → i < w.heap.size → w'.heap[i]? = w.heap[i]?) : w'.ownsRow base e size v n xs := by
  refine ⟨h.1, ?_⟩
  rcases h.2 with hn | ⟨g, cap, cur, rfl, hbg, hg, rest⟩
  · exact .inl hn
  · exact .inr ⟨g, cap, cur, rfl, hbg, (hb g hbg (obj_lt hg)).trans hg, rest⟩
theorem OwnD.on {w w' : World} {base : Nat} {wv tv fv : Value} {d : Dk} {ss tt : List Value} (h : OwnD w base wv tv fv d ss tt) (hb : ∀ i, base ≤ i → i < w.heap.size → w'.heap[i]? = w.heap[i]?) : OwnD w' base wv tv fv d ss tt :=
  ⟨own_on h.ws hb, own_on h.ts hb, own_on h.fs hb, h.sl, h.tl, fun i r v h1 h2 => own_on (h.sh i r v h1 h2) hb, fun i r v h1 h2 => own_on (h.th i r v h1 h2) hb, h.wi, h.ti⟩
theorem OwnD.held {w : World} {base : Nat} {wv tv fv : Value} {d : Dk} {ss tt : List Value} (h : OwnD w base wv tv fv d ss tt) : Held (fun w => IsDk w wv tv fv d) base w.heap.size w :=
  ⟨h.dk, Nat.le_refl _, fun w' hb => (h.on hb).dk⟩
theorem OwnD.heldW {w : World} {base : Nat} {wv tv fv : Value} {d : Dk} {ss tt : List Value} (h : OwnD w base wv tv fv d ss tt) (i : Nat) (r : Wr) (v : Value) (h1 : d.ws[i]? = some r) (h2 : ss[i]? = some v) : Held (fun w => IsSecs w v r.l) base w.heap.size w :=
  ⟨isSecs_own (h.sh i r v h1 h2) (h.wi r (List.mem_of_getElem? h1)), Nat.le_refl _, fun w' hb => isSecs_own (own_on (h.sh i r v h1 h2) hb) (h.wi r (List.mem_of_getElem? h1))⟩
theorem OwnD.heldT {w : World} {base : Nat} {wv tv fv : Value} {d : Dk} {ss tt : List Value} (h : OwnD w base wv tv fv d ss tt) (i : Nat) (r : Wr) (v : Value) (h1 : d.ts[i]? = some r) (h2 : tt[i]? = some v) : Held (fun w => IsSecs w v r.l) base w.heap.size w :=
  ⟨isSecs_own (h.th i r v h1 h2) (h.ti r (List.mem_of_getElem? h1)), Nat.le_refl _, fun w' hb => isSecs_own (own_on (h.th i r v h1 h2) hb) (h.ti r (List.mem_of_getElem? h1))⟩
theorem own_low {w : World} {base base' e size n : Nat} {v : Value} {xs : List Value} (h : w.ownsRow base e size v n xs) (hb : base' ≤ base) : w.ownsRow base' e size v n xs := by
  refine ⟨h.1, ?_⟩
  rcases h.2 with hn | ⟨g, cap, cur, rfl, hbg, rest⟩
  · exact .inl hn
  · exact .inr ⟨g, cap, cur, rfl, Nat.le_trans hb hbg, rest⟩
theorem own_keepBx {w w' : World} {base e size n : Nat} {v : Value} {xs : List Value} (h : w.ownsRow base e size v n xs) (q : B w w') : w'.ownsRow base e size v n xs :=
  own_on h fun i _ hi => q.below.block i hi
theorem own_objG {w w' : World} {base e t size n C : Nat} {v : Value} {xs : List Value} {cs : Array Value} (h : w.ownsRow base e size v n xs) (ho : w.heap[C]? = some (.cells cs t (0, 0))) (he : t ≠ e) (g : G (fun i => i = C) w w') : w'.ownsRow base e size v n xs := by
  refine ⟨h.1, ?_⟩
  rcases h.2 with hn | ⟨b, cap, cur, rfl, hbg, hb, rest⟩
  · exact .inl hn
  · refine .inr ⟨b, cap, cur, rfl, hbg, g.obj (fun hbC => ?_) hb, rest⟩
    subst hbC
    rw [ho] at hb
    simp only [Option.some.injEq, Obj.cells.injEq] at hb
    exact he hb.2.1
theorem farF2 {w : World} {b2 : Nat} {e2 t : TypeId} {s2 n2 : Nat} {v2 : Value} {x2 : List Value} {i : Nat} {cs : Array Value} (ho : w.heap[i]? = some (.cells cs t (0, 0))) (h2 : w.ownsRow b2 e2 s2 v2 n2 x2) (he : t ≠ e2) : v2.ownBlock ≠ some i :=
  obj_apart ho h2 (fun e => he (by simpa [kindO] using e))
def OwnV (k e size n : Nat) (xs : List Value) : Value → World → Prop := fun v w => ∃ o c, v = .slice o n c ∧ w.ownsRow k e size (.slice o n c) n xs
theorem slot_own (k e size n : Nat) (xs : List Value) : Slot.stays (OwnV k e size n xs) := fun _ _ _ ⟨o, c, h1, h2⟩ q => ⟨o, c, h1, own_keepBx h2 q⟩
def OwnA (k nw nt nf : Nat) (XW XT XF : List Value) : Value → World → Prop := fun v w => ∃ o1 c1 o2 c2 o3 c3, v = .agg #[.slice o1 nw c1, .slice o2 nt c2, .slice o3 nf c3] ∧ w.ownsRow k 33 5 (.slice o1 nw c1) nw XW ∧ w.ownsRow k 35 5 (.slice o2 nt c2) nt XT ∧ w.ownsRow k 41 4 (.slice o3 nf c3) nf XF
theorem slot_owna (k nw nt nf : Nat) (XW XT XF : List Value) : Slot.stays (OwnA k nw nt nf XW XT XF) := fun _ _ _ ⟨o1, c1, o2, c2, o3, c3, h, r1, r2, r3⟩ q => ⟨o1, c1, o2, c2, o3, c3, h, own_keepBx r1 q, own_keepBx r2 q, own_keepBx r3 q⟩
def BoxV (k : Nat) : Value → World → Prop := fun v w => ∃ b, v = .pointer (some ⟨b, 0, none⟩) ∧ w.heap[b]? = some (.cells #[.slice none 0 0, .slice none 0 0, .slice none 0 0] 26 (0, 0)) ∧ k ≤ b
theorem slot_box (k : Nat) : Slot.stays (BoxV k) := fun _ _ _ ⟨b, h1, h2, h3⟩ q => ⟨b, h1, q.obj h2, h3⟩
theorem flatR_set : ∀ (L : List Rec) (vs : List Value) (i : Nat) (v : Value), L.length = vs.length → i < L.length → (flatR L vs).set (i * 5 + 4) v = flatR L (vs.set i v)
  | [], _, i, _, _, h => by simp at h
  | _ :: _, [], _, _, h, _ => by simp at h
  | r :: L, u :: vs, 0, v, _, _ => by
    show (r.cells u ++ flatR L vs).set (0 * 5 + 4) v = r.cells v ++ flatR L vs
    rfl
  | r :: L, u :: vs, i + 1, v, h, hi => by
    show (r.cells u ++ flatR L vs).set ((i + 1) * 5 + 4) v = r.cells u ++ flatR L (vs.set i v)
    rw [List.set_append_right _ _ (by simp [Rec.cells]; omega), show (i + 1) * 5 + 4 - (r.cells u).length = i * 5 + 4 by simp [Rec.cells]; omega, flatR_set L vs i v (by simpa using h) (by simpa using hi)]
/-- Up to i the shapes are new ones; behind it they are those that came in. -/
structure LpAt (L : List Rec) (w wr W1 : World) (k C n : Nat) (sv : Value) (ty : TypeId) (i : Nat) (ss : List Value) : Prop where
  len : ss.length = L.length
  row : wr.ownsRow k ty 5 sv n (flatR L ss)
  old : ∀ (j : Nat) r u, i ≤ j → L[j]? = some r → ss[j]? = some u → IsSecs w u r.l
  new : ∀ (j : Nat) r u, j < i → L[j]? = some r → ss[j]? = some u → wr.ownsRow k 37 6 u r.l.length (flat r.l)
  g : G (fun b => k ≤ b ∧ b ≠ C) W1 wr
  bw : B w wr
  own : ∀ {e size m : Nat} {v : Value} {xs : List Value}, e ≠ ty → W1.ownsRow k e size v m xs → wr.ownsRow k e size v m xs
theorem LpAt.start {L : List Rec} {w W1 : World} {k C n : Nat} {sv : Value} {ty : TypeId} {vs : List Value} (h1 : vs.length = L.length) (h2 : ∀ (i : Nat) r u, L[i]? = some r → vs[i]? = some u → IsSecs w u r.l) (bw : B w W1) (h3 : W1.ownsRow k ty 5 sv n (flatR L vs)) : LpAt L w W1 W1 k C n sv ty 0 vs :=
  ⟨h1, h3, fun j r u _ h4 h5 => h2 j r u h4 h5, fun j r u h => by omega, G.refl _ _, bw, fun _ h => h⟩
section
variable {L : List Rec} {w wr W1 : World} {k C n i : Nat} {sv : Value} {ty : TypeId} {ss : List Value}
theorem LpAt.at_ (h : LpAt L w wr W1 k C n sv ty i ss) (hn : L.length = n) (hi : i < n) : ∃ r u, L[i]? = some r ∧ ss[i]? = some u ∧ ∀ g, sv.ownBlock = some g → wr.cell? ⟨g, i * 5 + 4, none⟩ = some u := by
  have hr : L[i]? = some L[i] := List.getElem?_eq_getElem (by omega)
  have hu : ss[i]? = some (ss[i]'(by have := h.len; omega)) := List.getElem?_eq_getElem _
  refine ⟨_, _, hr, hu, fun g hg => ?_⟩
  have hx := flatR_get L ss i 4 _ _ hr hu (by omega)
  have := h.row
  obtain ⟨o, c, rfl⟩ := ownsRow_form this
  cases o with
  | none => cases hg
  | some a =>
    obtain ⟨g', cap, e, _⟩ := this.form (by omega)
    simp only [Value.slice.injEq, Option.some.injEq, true_and] at e
    obtain ⟨rfl, rfl⟩ := e
    obtain rfl : g' = g := Option.some.inj hg
    rw [this.cellAt (i * 5 + 4) (by omega), hx]
    rfl
theorem LpAt.old_at (h : LpAt L w wr W1 k C n sv ty i ss) {r : Rec} {u : Value} (hr : L[i]? = some r) (hu : ss[i]? = some u) : IsSecs wr u r.l := (h.old i r u (Nat.le_refl _) hr hu).keepB h.bw
theorem LpAt.next {wl w2 : World} {r : Rec} {u : Value} {g cp m o9 c9} (h : LpAt L w wl W1 k C n (.slice (some ⟨g, 0, none⟩) n cp) ty i ss) (hnL : L.length = n) (hk : k ≤ wl.heap.size) (hr : L[i]? = some r) (hu : ss[i]? = some u) (hl : i < n) (q : B wl w2) (hown : w2.ownsRow wl.heap.size 37 6 (.slice o9 m c9) m (flat r.l)) (hm : r.l.length = m) (hty : ty ≠ 37) (hgC : ¬ g = C) (hw : w.heap.size ≤ k) :
    LpAt L w (w2.setCell ⟨g, i * 5 + 4, none⟩ (.slice o9 m c9)) W1 k C n (.slice (some ⟨g, 0, none⟩) n cp) ty (i + 1) (ss.set i (.slice o9 m c9)) := by
  have hrow2 := own_keepBx h.row q
  obtain ⟨h2, g2⟩ := hrow2.stored (i * 5 + 4) (.slice o9 m c9)
  rw [flatR_set L ss i _ h.len.symm (by omega)] at h2
  have hgk : k ≤ g := (h.row.lt g rfl).1
  have o1 : ∀ {e size n' : Nat} {v : Value} {xs : List Value} {b : Nat}, e ≠ ty → w2.ownsRow b e size v n' xs → (w2.setCell ⟨g, i * 5 + 4, none⟩ (.slice o9 m c9)).ownsRow b e size v n' xs := fun {e size n' v xs b} he hv => hv.kept g2 (rows_apart hv hrow2 he)
  refine ⟨by simp [h.len], h2, fun j r' u' hj hr' hu' => ?_, fun j r' u' hj hr' hu' => ?_, ?_, ?_, fun he hv => o1 he (own_keepBx (h.own he hv) q)⟩
  · rw [List.getElem?_set_ne (by omega)] at hu'
    exact h.old j r' u' (by omega) hr' hu'
  · by_cases hji : j = i
    · subst hji
      rw [List.getElem?_set_self (by have := h.len; omega)] at hu'
      obtain rfl := Option.some.inj hu'
      obtain rfl : r = r' := Option.some.inj (hr.symm.trans hr')
      rw [hm]
      exact o1 (fun e => hty e.symm) (own_low hown hk)
    · rw [List.getElem?_set_ne (fun e => hji e.symm)] at hu'
      exact o1 (fun e => hty e.symm) (own_keepBx (h.new j r' u' (by omega) hr' hu') q)
  · exact (h.g.trans (q.g _)).setCell (p := ⟨g, i * 5 + 4, none⟩) (.inl ⟨hgk, hgC⟩) _
  · exact (h.bw.trans q).setCell (p := ⟨g, i * 5 + 4, none⟩) (Nat.le_trans hw hgk) _
end
end Go.Proofs.YtjdkhobkdlldnaaGreatDoor

namespace Go.Proofs.YtjdkhobkdlldnaaGreatDoor
open Go.RowKit
/-- A number, and a blank. -/
def numText (n : Int) : List UInt8 := Lib.itoa n ++ [32]
def boolText (b : Bool) : List UInt8 := if b then [116, 114, 117, 101] else [102, 97, 108, 115, 101]
def secText (s : Sec) : List UInt8 := boolText s.r ++ (numText s.h ++ (numText s.a0 ++ (numText s.b0 ++ (numText s.a1 ++ numText s.b1))))
def keyText : List Sec → List UInt8
  | [] => []
  | s :: l => secText s ++ keyText l
end Go.Proofs.YtjdkhobkdlldnaaGreatDoor

namespace Go.Proofs.YtjdkhobkdlldnaaGreatDoor
open Go.RowKit Go.Maps
/-- An entry: its shape, its block, its table, the blocks in which that lies. -/
structure Ent where
  l : List Sec
  b : Nat
  p : Value
  lo : Nat
  hi : Nat
/-- How a pointer among a map's elements reads: the number of its block. -/
def ptrElem : Value → Option (DataW Unit × List MemPlace)
  | .pointer none => some (.nil, [])
  | .pointer (some ⟨b, 0, none⟩) => some (.lit (.int .i64 b), [])
  | _ => none
theorem ptrElem_at (b : Nat) : ptrElem (.pointer (some ⟨b, 0, none⟩)) = some (.lit (.int .i64 b), []) := rfl
/-- What a cache's map holds at a shape's key. -/
def entD (E : List Ent) (l : List Sec) : DataW Unit :=
  match E.find? (fun e => decide (e.l = l)) with
  | some e => .lit (.int .i64 e.b)
  | none => .nil
theorem entD_snoc (E : List Ent) (x : Ent) (h : ∀ e ∈ E, e.l ≠ x.l) (l : List Sec) : entD (E ++ [x]) l = if l = x.l then .lit (.int .i64 x.b) else entD E l := by
  unfold entD
  rw [List.find?_append]
  by_cases c : l = x.l
  · subst c
    rw [if_pos rfl, List.find?_eq_none.2 (fun e he => by simpa using h e he)]
    simp
  · rw [if_neg c]
    have : [x].find? (fun e => decide (e.l = l)) = none := by simp [Ne.symm c]
    rw [this]
    cases E.find? (fun e => decide (e.l = l)) <;> rfl
/-- An entry, its table made. -/
structure EntAt (T : World → Value → List (Int × Int) → Prop) (base : Nat) (w : World) (e : Ent) : Prop where
  obj : w.heap[e.b]? = some (.cells #[.int .u32 1, .int .i32 0, .int .u32 0, e.p] 284 (0, 0))
  tab : TabN T e.lo e.hi w e.p (slAll e.l)
  right : rightS e.l = true
  low : base ≤ e.b
  ord : e.b < e.lo
theorem EntAt.g {T : World → Value → List (Int × Int) → Prop} {base : Nat} {w w' : World} {e : Ent} {S : Nat → Prop} (h : EntAt T base w e) (q : G S w w') (hS : ∀ i, S i → i < base) : EntAt T base w' e :=
  ⟨q.obj (fun hs => by have := hS _ hs; have := h.low; omega) h.obj, q.tabN h.tab (fun i h1 h2 hs => by have := hS i hs; have := h.low; have := h.ord; omega), h.right, h.low, h.ord⟩
/-- The cache in block c, its map in block bm: asked n times, m tables made, k entries, F at each shape's key; E: those whose table is made. -/
structure CacheM (T : World → Value → List (Int × Int) → Prop) (w : World) (c bm base n m k : Nat) (F : List Sec → DataW Unit) (E : List Ent) : Prop where
  obj : w.heap[c]? = some (.cells #[.int .i64 n, .int .i64 m, .int .i32 0, .int .u32 0, .map (some bm)] 204 (0, 0))
  map : ∃ D, w.ownsMap Tryz.prog 9 ptrElem bm k D ∧ ∀ l, D.atKey (.string (keyText l)) .nil = F l
  lt : bm < c
  lb : c < base
  le : base ≤ w.heap.size
  ents : ∀ e ∈ E, EntAt T base w e
  apart : E.Pairwise fun a b => a.l ≠ b.l ∧ a.hi ≤ b.b
/-- At rest. -/
def CacheC (T : World → Value → List (Int × Int) → Prop) (w : World) (c bm base n : Nat) (E : List Ent) : Prop := CacheM T w c bm base n E.length E.length (entD E) E
/-- The cache's own blocks. -/
def CS (c bm : Nat) (i : Nat) : Prop := i = c ∨ i = bm
section
variable {T : World → Value → List (Int × Int) → Prop} {w w' : World} {c bm base n m k : Nat} {F : List Sec → DataW Unit} {E : List Ent}
theorem CacheM.cs (h : CacheM T w c bm base n m k F E) : ∀ i, CS c bm i → i < base := fun i hi => by
  have := h.lt; have := h.lb
  rcases hi with rfl | rfl <;> omega
theorem CacheM.apartG {S : Nat → Prop} (h : CacheM T w c bm base n m k F E) (q : G S w w') (hS : ∀ i, S i → i ≠ c ∧ i ≠ bm ∧ ∀ e ∈ E, i ≠ e.b ∧ (i < e.lo ∨ e.hi ≤ i)) : CacheM T w' c bm base n m k F E := by
  obtain ⟨D, hD, hF⟩ := h.map
  refine ⟨q.obj (fun hs => (hS _ hs).1 rfl) h.obj, ⟨D, ?_, hF⟩, h.lt, h.lb, Nat.le_trans h.le q.size, fun e he => ?_, h.apart⟩
  · obtain ⟨es, clock, hb, r⟩ := hD
    exact ⟨es, clock, q.obj (fun hs => (hS _ hs).2.1 rfl) hb, r⟩
  · have he' := h.ents e he
    exact ⟨q.obj (fun hs => ((hS _ hs).2.2 e he).1 rfl) he'.obj, q.tabN he'.tab (fun i h1 h2 hs => by have := ((hS i hs).2.2 e he).2; omega), he'.right, he'.low, he'.ord⟩
theorem CacheM.g {S : Nat → Prop} (h : CacheM T w c bm base n m k F E) (q : G S w w') (hS : ∀ i, S i → i < base ∧ i ≠ c ∧ i ≠ bm) : CacheM T w' c bm base n m k F E :=
  h.apartG q fun i hi => ⟨(hS i hi).2.1, (hS i hi).2.2, fun e he => by
    have := h.ents e he
    have h1 := this.low
    have h2 := this.ord
    have h3 := (hS i hi).1
    exact ⟨by omega, by omega⟩⟩
theorem CacheM.keepB (h : CacheM T w c bm base n m k F E) (q : B w w') : CacheM T w' c bm base n m k F E := h.g (q.g (fun _ => False)) (fun _ h => h.elim)
/-- Its own block is written: the world behind is the one in which the lock, or a count, holds something else. -/
theorem one_own (w : World) (c j : Nat) (v : Value) : G (fun i => i = c) w (w.setCell ⟨c, j, none⟩ v) := (G.refl (fun i => i = c) w).setCell (p := ⟨c, j, none⟩) (.inl rfl) v
theorem CacheM.put (h : CacheM T w c bm base n m k F E) {w' : World} {n' m' : Nat} (q : G (fun i => i = c) w w') (ho : w'.heap[c]? = some (.cells #[.int .i64 n', .int .i64 m', .int .i32 0, .int .u32 0, .map (some bm)] 204 (0, 0))) :
    CacheM T w' c bm base n' m' k F E := by
  obtain ⟨D, hD, hF⟩ := h.map
  have h1 := h.lt
  have h2 := h.lb
  refine ⟨ho, ⟨D, ?_, hF⟩, h.lt, h.lb, Nat.le_trans h.le q.size, fun e he => (h.ents e he).g q (fun i hi => by omega), h.apart⟩
  obtain ⟨es, clock, hb, r⟩ := hD
  exact ⟨es, clock, q.obj (by omega) hb, r⟩
end
/-- An entry that is made is one more. -/
theorem CacheM.more {T : World → Value → List (Int × Int) → Prop} {w : World} {c bm base n : Nat} {E : List Ent} {x : Ent} (hn : ∀ e ∈ E, e.l ≠ x.l)
    (h : CacheM T w c bm base n (E.length + 1) (E.length + 1) (fun l => if l = x.l then .lit (.int .i64 x.b) else entD E l) E) (hx : EntAt T base w x) (hb : ∀ e ∈ E, e.hi ≤ x.b) : CacheC T w c bm base n (E ++ [x]) := by
  have e1 : (E ++ [x]).length = E.length + 1 := by simp
  unfold CacheC
  rw [e1]
  obtain ⟨D, hD, hF⟩ := h.map
  refine ⟨h.obj, ⟨D, hD, fun l => (hF l).trans (entD_snoc E x hn l).symm⟩, h.lt, h.lb, h.le, fun e he => ?_, ?_⟩
  · rcases List.mem_append.1 he with he | he
    · exact h.ents e he
    · rw [List.mem_singleton] at he
      subst he
      exact hx
  · rw [List.pairwise_append]
    refine ⟨h.apart, List.pairwise_singleton _ _, fun a ha b hb' => ?_⟩
    rw [List.mem_singleton] at hb'
    subst hb'
    exact ⟨hn a ha, hb a ha⟩
theorem str_law : Keyed Tryz.prog 9 := string_keyed Tryz.underlying9
end Go.Proofs.YtjdkhobkdlldnaaGreatDoor

namespace Go.Proofs.YtjdkhobkdlldnaaGreatDoor
open Go.RowKit Go.Maps Go.WideMaps
set_option linter.unusedVariables false
theorem str9 : Keyed Tryz.prog 9 := string_keyed Tryz.underlying9
theorem int_zero (w : World) : (zeroValue 3).run Tryz.prog w = .ok (.int .i64 0) w := by kernel_rfl
def namedL (ns : List ByteArray) (s : ByteArray) : Bool := ns.any fun n => n.toList == s.toList
/-- A map of names, each with its place. -/
def NmAt (w : World) (b : Nat) (ns : List ByteArray) : Prop :=
  ∃ D : DataW Unit, w.ownsMap Tryz.prog 9 (plainElem Tryz.prog 3) b ns.length D ∧ Maps.Tidy D ∧ Maps.size D = ns.length ∧
    (∀ s : ByteArray, Maps.has D (.string s.data.toList) = namedL ns s) ∧
    ∀ (i : Nat) n, ns[i]? = some n → D.atKey (.string n.data.toList) (.lit (.int .i64 0)) = .lit (.int .i64 ((i : Nat) : Int))
theorem NmAt.new (w : World) : NmAt (w.alloc (.map #[] 0)) w.heap.size [] :=
  ⟨_, World.ownsMap_made w _ _ _, Maps.tidy_empty, rfl, fun _ => rfl, fun i n h => by simp at h⟩
theorem ownsMap_obj {P : Program} {k : TypeId} {R : Value → Option (DataW Unit × List MemPlace)} {w : World} {b n : Nat} {D : DataW Unit} (h : w.ownsMap P k R b n D) : ∃ es c, w.heap[b]? = some (.map es c) := by
  obtain ⟨es, c, h1, _⟩ := h
  exact ⟨es, c, h1⟩
theorem ownsMap_same {P : Program} {k : TypeId} {R : Value → Option (DataW Unit × List MemPlace)} {w w' : World} {b n : Nat} {D : DataW Unit} (h : w.ownsMap P k R b n D) (hb : w'.heap[b]? = w.heap[b]?) : w'.ownsMap P k R b n D := by
  obtain ⟨es, c, h1, h2⟩ := h
  exact ⟨es, c, hb.trans h1, h2⟩
theorem NmAt.same {w w' : World} {b : Nat} {ns : List ByteArray} (h : NmAt w b ns) (hb : w'.heap[b]? = w.heap[b]?) : NmAt w' b ns :=
  let ⟨D, h1, h2⟩ := h
  ⟨D, ownsMap_same h1 hb, h2⟩
theorem NmAt.obj {w : World} {b : Nat} {ns : List ByteArray} (h : NmAt w b ns) : ∃ es c, w.heap[b]? = some (.map es c) := let ⟨_, h1, _⟩ := h; ownsMap_obj h1
theorem namedL_snoc (ns : List ByteArray) (s x : ByteArray) : namedL (ns ++ [s]) x = (namedL ns x || s.toList == x.toList) := by simp [namedL]
theorem turned_tn {w w' : World} {b base : Nat} (h : w.mapTurned w' b) (hb : base ≤ b) {K : List (Option TypeId)} (hK : none ∈ K) : Tn K base w w' := by
  obtain ⟨es, c, es', c', ho, rfl⟩ := h
  refine ⟨rfl, rfl, rfl, by simp [ChangeMaps.setBlock], fun i hi => ?_⟩
  by_cases e : i = b
  · subst e
    exact .inr ⟨hb, none, _, hK, ho, rfl⟩
  · exact .inl (ChangeMaps.heap_setBlock_other ho _ e)
/-- Maps stay, but for one. -/
def Tm (b : Nat) (w w' : World) : Prop := ∀ i es c, i ≠ b → w.heap[i]? = some (.map es c) → w'.heap[i]? = some (.map es c)
theorem Tm.trans {b : Nat} {w1 w2 w3 : World} (h : Tm b w1 w2) (k : Tm b w2 w3) : Tm b w1 w3 := fun i es c hi ho => k i es c hi (h i es c hi ho)
theorem Tm.refl (b : Nat) (w : World) : Tm b w w := fun _ _ _ _ h => h
theorem Tn.tm {K : List (Option TypeId)} {base : Nat} {w w' : World} (t : Tn K base w w') (hK : none ∉ K) (b : Nat) : Tm b w w' := fun i es c _ ho => t.objm ho hK
theorem B.tm {w w' : World} (q : B w w') (b : Nat) : Tm b w w' := fun i es c _ ho => (q.below.block i (obj_lt ho)).trans ho
theorem turned_tm {w w' : World} {b : Nat} (h : w.mapTurned w' b) : Tm b w w' := fun i es c hi ho => by
  obtain ⟨es1, c1, es', c', hb, rfl⟩ := h
  exact (ChangeMaps.heap_setBlock_other hb _ hi).trans ho
theorem NmAt.tm {w w' : World} {b b' : Nat} {ns : List ByteArray} (h : NmAt w b ns) (t : Tm b' w w') (hb : b ≠ b') : NmAt w' b ns := by
  obtain ⟨es, c, ho⟩ := h.obj
  exact h.same ((t b es c hb ho).trans ho.symm)
/-- Names, one more if it may be. -/
def addN (ns : List ByteArray) (s : ByteArray) : List ByteArray := if (nameS s && !namedL ns s) = true then ns ++ [s] else ns
def kM : List (Option TypeId) := [none]
theorem key9 (s : ByteArray) (h : s.size ≤ maxLen) : keyOf Tryz.prog 9 (.string s) = some (.string s.data.toList) := by
  have := keyOf_string_mk (P := Tryz.prog) (k := 9) Tryz.underlying9 (s := s) h
  simpa using this
set_option maxHeartbeats 1000000 in
theorem lit_ne {s x : ByteArray} (h : (s.toList == x.toList) = false) : Lit.string x.data.toList ≠ Lit.string s.data.toList := by
  intro e
  rw [Lit.string.injEq] at e
  rw [Go.Lib.toList_data, Go.Lib.toList_data, e] at h
  simp at h
theorem names_put {D : DataW Unit} {ns : List ByteArray} {s : ByteArray} (hT : Maps.Tidy D) (hS : Maps.size D = ns.length) (hH : ∀ s : ByteArray, Maps.has D (.string s.data.toList) = namedL ns s)
    (hA : ∀ (i : Nat) n, ns[i]? = some n → D.atKey (.string n.data.toList) (.lit (.int .i64 0)) = .lit (.int .i64 ((i : Nat) : Int))) (hns : namedL ns s = false) :
    let D' := D.put (.string s.data.toList) (.lit (.int .i64 (ns.length : Int)))
    Maps.Tidy D' ∧ Maps.size D' = (ns ++ [s]).length ∧ (∀ x : ByteArray, Maps.has D' (.string x.data.toList) = namedL (ns ++ [s]) x) ∧
      ∀ (i : Nat) n, (ns ++ [s])[i]? = some n → D'.atKey (.string n.data.toList) (.lit (.int .i64 0)) = .lit (.int .i64 ((i : Nat) : Int)) := by
  have hk : WideAt.IsKeyLit (.string s.data.toList) := trivial
  refine ⟨hT.put hk _, ?_, fun x => ?_, fun i n hi => ?_⟩
  · rw [size_put hT, hH, hns]
    simp [hS]
  · rw [namedL_snoc]
    cases hx : s.toList == x.toList
    · rw [has_put_other (lit_ne hx), hH]
      simp
    · have e : s.data.toList = x.data.toList := by
        rw [← Go.Lib.toList_data, ← Go.Lib.toList_data]
        simpa using hx
      rw [← e, has_put_same hT.isMap hk]
      simp
  · by_cases hl : i < ns.length
    · rw [List.getElem?_append_left hl] at hi
      have hx : (s.toList == n.toList) = false := by
        cases hx : s.toList == n.toList
        · rfl
        · have : namedL ns s = true := List.any_eq_true.2 ⟨n, List.mem_of_getElem? hi, by simpa using (by simpa using hx : s.toList = n.toList).symm⟩
          rw [hns] at this
          cases this
      rw [atKey_put_other (lit_ne hx)]
      exact hA i n hi
    · rw [List.getElem?_append_right (by omega)] at hi
      have h0 : i - ns.length = 0 := by
        rcases Nat.eq_zero_or_pos (i - ns.length) with h | h
        · exact h
        · rw [List.getElem?_eq_none (by simp; omega)] at hi; cases hi
      rw [h0] at hi
      obtain rfl : s = n := by simpa using hi
      obtain rfl : i = ns.length := by omega
      rw [atKey_put_same hT.isMap hk]
set_option maxRecDepth 100000 in
theorem add_any (w : World) (base b : Nat) (ns : List ByteArray) (s : ByteArray) (hs : s.size ≤ maxLen) (hn : ns.length < 1000) (hb : base ≤ b) (h : NmAt w b ns) :
    Calls Tryz.prog 30 #[.map (some b), .string s] w fun r w' => r = .returned (.bool (nameS s && !namedL ns s)) ∧ NmAt w' b (addN ns s) ∧ Tn kM base w w' ∧ Tm b w w' := by
  unfold addN
  have hkey := key9 s hs
  have h0 := h
  obtain ⟨D, hD, hT, hS, hH, hA⟩ := h
  have hHs := hH s
  cases hns : namedL ns s
  · rw [hns] at hHs
    cases hok : nameS s
    · refine Calls.mono (R := fun r w' => r = .returned (.bool false) ∧ NmAt w' b ns ∧ Tn kM base w w' ∧ Tm b w w') ?_ (fun _ _ h => h)
      have HR := Lib.hid h0
      clear h0 hS hH hA hT hns
      go_enter Tryz.func30, Tryz.ntmps30
      go_wp2_with (first
        | (at_lookup; refine wpList_lookup_own_ok_int _ rfl _ _ 94 rfl 9 3 .i64 str9 Tryz.underlying94 Tryz.underlying3 (int_zero _) b _ D rfl hD _ _ rfl hkey ?_; intro c _ _; rw [hHs])
        | (go_at_call 68; refine (name_any _ _).mono ?_; rintro _ w1 ⟨rfl, q1⟩; simp only [hok]))
      go_ret
      exact ⟨rfl, HR.out.same (q1.below.block _ (by obtain ⟨es, c, ho⟩ := HR.out.obj; exact obj_lt ho)), q1.tn _ _, q1.tm b⟩
    · refine Calls.mono (R := fun r w' => r = .returned (.bool true) ∧ NmAt w' b (ns ++ [s]) ∧ Tn kM base w w' ∧ Tm b w w') ?_ (fun _ _ h => h)
      have HX := Lib.hid (And.intro hT (And.intro hS (And.intro hH (And.intro hA hns))))
      clear h0 hT hH hA hns
      go_enter Tryz.func30, Tryz.ntmps30
      go_wp2_with (first
        | (at_lookup; refine wpList_lookup_own_ok_int _ rfl _ _ 94 rfl 9 3 .i64 str9 Tryz.underlying94 Tryz.underlying3 (int_zero _) b _ D rfl hD _ _ rfl hkey ?_; intro c _ _; rw [hHs])
        | (go_at_call 68; refine (name_any _ _).mono ?_; rintro _ w1 ⟨rfl, q1⟩; simp only [hok]; have hD1 := ownsMap_same hD (q1.below.block _ hD.lt))
        | (at_len; refine wpList_len_own _ rfl _ 94 rfl 9 3 Tryz.underlying94 _ b _ D rfl hD1 ?_; rw [hS])
        | (at_mapUpdate; refine wpList_mapUpdate_in _ rfl _ _ _ 94 rfl 9 3 str9 Tryz.underlying94 _ b _ D rfl hD1 (by unfold maxLen; omega) _ _ _ rfl rfl hkey (.lit (.int .i64 (ns.length : Int))) [] (plainElem_int Tryz.underlying3 (by simp [Lit.wf, IntKind.min, IntKind.max, IntKind.signed, IntKind.bits]; omega)) ?_; intro w2 hD2 ht2))
      go_ret
      obtain ⟨hT, hS, hH, hA, hns⟩ := HX.out
      refine ⟨rfl, ?_, (q1.tn kM base).trans (turned_tn ht2 hb (by decide)), (q1.tm b).trans (turned_tm ht2)⟩
      have hp := names_put hT hS hH hA hns
      exact ⟨_, by simpa using hD2, hp⟩
  · rw [hns] at hHs
    rw [Bool.not_true, Bool.and_false]
    refine Calls.mono (R := fun r w' => r = .returned (.bool false) ∧ NmAt w' b ns ∧ Tn kM base w w' ∧ Tm b w w') ?_ (fun _ _ h => h)
    have HR := Lib.hid h0
    clear h0 hS hH hA hT hns
    go_enter Tryz.func30, Tryz.ntmps30
    go_wp2_with (first
      | (at_lookup; refine wpList_lookup_own_ok_int _ rfl _ _ 94 rfl 9 3 .i64 str9 Tryz.underlying94 Tryz.underlying3 (int_zero _) b _ D rfl hD _ _ rfl hkey ?_; intro c _ _; rw [hHs]))
    go_ret
    exact ⟨rfl, HR.out, Tn.refl _ _ _, Tm.refl _ _⟩
theorem NmAt.tn {K : List (Option TypeId)} {base : Nat} {w w' : World} {b : Nat} {ns : List ByteArray} (h : NmAt w b ns) (t : Tn K base w w') (hK : none ∉ K) : NmAt w' b ns := by
  obtain ⟨es, c, ho⟩ := h.obj
  exact h.same ((t.objm ho hK).trans ho.symm)
theorem addN_yes {ns : List ByteArray} {s : ByteArray} (h : (nameS s && !namedL ns s) = true) : addN ns s = ns ++ [s] := by unfold addN; rw [if_pos h]
end Go.Proofs.YtjdkhobkdlldnaaGreatDoor

namespace Go.Proofs.YtjdkhobkdlldnaaGreatDoor
open Go.RowKit Go.Maps Go.WideMaps
set_option linter.unusedVariables false
/-- What a map of things holds at a name. -/
def thD : List ByteArray → List Nat → ByteArray → DataW Unit
  | n :: ns, b :: bs, s => if n.toList == s.toList then .lit (.int .i64 b) else thD ns bs s
  | _, _, _ => .nil
theorem thD_no : ∀ (ns : List ByteArray) (bs : List Nat) (s : ByteArray), namedL ns s = false → thD ns bs s = .nil
  | [], _, _, _ => by simp [thD]
  | _ :: _, [], _, _ => by simp [thD]
  | n :: ns, b :: bs, s, h => by
    simp only [namedL, List.any_cons, Bool.or_eq_false_iff] at h
    rw [thD, h.1]
    exact thD_no ns bs s h.2
theorem thD_snoc : ∀ (ns : List ByteArray) (bs : List Nat) (n : ByteArray) (b : Nat) (s : ByteArray), ns.length = bs.length → thD (ns ++ [n]) (bs ++ [b]) s = if namedL ns s then thD ns bs s else if n.toList == s.toList then .lit (.int .i64 b) else .nil
  | [], [], n, b, s, _ => by simp [thD, namedL]
  | [], _ :: _, _, _, _, h => by simp at h
  | _ :: _, [], _, _, _, h => by simp at h
  | x :: ns, y :: bs, n, b, s, h => by
    show thD (x :: (ns ++ [n])) (y :: (bs ++ [b])) s = _
    rw [thD]
    cases hx : x.toList == s.toList
    · simp only [Bool.false_eq_true, if_false]
      rw [thD_snoc ns bs n b s (by simpa using h)]
      simp only [namedL, List.any_cons, hx, Bool.false_or]
      rw [thD, hx]
      simp
    · simp only [if_true]
      simp only [namedL, List.any_cons, hx, Bool.true_or, if_true]
      rw [thD, hx]
      simp
/-- A map of things. -/
def ThMap (w : World) (m : Nat) (ns : List ByteArray) (bs : List Nat) : Prop :=
  ∃ D : DataW Unit, w.ownsMap Tryz.prog 9 ptrElem m ns.length D ∧ Maps.IsMap D ∧ (∀ s : ByteArray, D.atKey (.string s.data.toList) .nil = thD ns bs s) ∧ ∀ s : ByteArray, Maps.has D (.string s.data.toList) = namedL ns s
theorem ThMap.same {w w' : World} {b : Nat} {ns : List ByteArray} {bs : List Nat} (h : ThMap w b ns bs) (hb : w'.heap[b]? = w.heap[b]?) : ThMap w' b ns bs :=
  let ⟨D, h1, h2⟩ := h
  ⟨D, ownsMap_same h1 hb, h2⟩
theorem ThMap.obj {w : World} {b : Nat} {ns : List ByteArray} {bs : List Nat} (h : ThMap w b ns bs) : ∃ es c, w.heap[b]? = some (.map es c) := let ⟨_, h1, _⟩ := h; ownsMap_obj h1
theorem ThMap.g {S : Nat → Prop} {w w' : World} {b : Nat} {ns : List ByteArray} {bs : List Nat} (h : ThMap w b ns bs) (q : G S w w') (hb : ¬ S b) : ThMap w' b ns bs := by
  obtain ⟨es, c, ho⟩ := h.obj
  exact h.same ((q.obj hb ho).trans ho.symm)
theorem ThMap.new (w : World) : ThMap (w.alloc (.map #[] 0)) w.heap.size [] [] :=
  ⟨_, World.ownsMap_made w _ _ _, Maps.isMap_empty, fun _ => rfl, fun _ => rfl⟩
theorem th_put {D : DataW Unit} {ns : List ByteArray} {bs : List Nat} {n : ByteArray} {b : Nat} (hM : Maps.IsMap D) (hl : ns.length = bs.length) (hA : ∀ s : ByteArray, D.atKey (.string s.data.toList) .nil = thD ns bs s) (hH : ∀ s : ByteArray, Maps.has D (.string s.data.toList) = namedL ns s) (hn : namedL ns n = false) :
    (∀ s : ByteArray, (D.put (.string n.data.toList) (.lit (.int .i64 b))).atKey (.string s.data.toList) .nil = thD (ns ++ [n]) (bs ++ [b]) s) ∧ ∀ s : ByteArray, Maps.has (D.put (.string n.data.toList) (.lit (.int .i64 b))) (.string s.data.toList) = namedL (ns ++ [n]) s := by
  have hk : WideAt.IsKeyLit (.string n.data.toList) := trivial
  refine ⟨fun s => ?_, fun s => ?_⟩
  · rw [thD_snoc ns bs n b s hl]
    cases hs : n.toList == s.toList
    · rw [atKey_put_other (lit_ne hs), hA]
      cases hx : namedL ns s
      · rw [thD_no ns bs s hx]; simp
      · simp
    · have e : n.data.toList = s.data.toList := by
        rw [← Go.Lib.toList_data, ← Go.Lib.toList_data]
        simpa using hs
      have hx : namedL ns s = false := by
        unfold namedL at hn ⊢
        rw [show s.toList = n.toList by simpa using (by simpa using hs : n.toList = s.toList).symm]
        exact hn
      rw [← e, atKey_put_same hM hk, hx]
      simp
  · rw [namedL_snoc]
    cases hx : n.toList == s.toList
    · rw [has_put_other (lit_ne hx), hH]
      simp
    · have e : n.data.toList = s.data.toList := by
        rw [← Go.Lib.toList_data, ← Go.Lib.toList_data]
        simpa using hx
      rw [← e, has_put_same hM hk]
      simp
/-- A thing: its place, its shape, its block, its table, if that was asked for. -/
structure Th where
  i : Nat
  l : List Sec
  b : Nat
  p : Option Value
def Th.cells (x : Th) (v : Value) : Array Value := match x.p with
  | none => #[.int .i64 x.i, v, .int .u32 0, .int .i32 0, .int .u32 0, .pointer none]
  | some p => #[.int .i64 x.i, v, .int .u32 1, .int .i32 0, .int .u32 0, p]
structure ThAt (lo hi : Nat) (E : List Ent) (w : World) (x : Th) : Prop where
  obj : ∃ o m c, w.heap[x.b]? = some (.cells (x.cells (.slice o m c)) 178 (0, 0)) ∧ Held (fun w => IsSecs w (.slice o m c) x.l) lo hi w
  right : rightS x.l = true
  made : ∀ p, x.p = some p → ∃ e ∈ E, e.p = p ∧ e.l = x.l
theorem ThAt.g {S : Nat → Prop} {lo hi : Nat} {E : List Ent} {w w' : World} {x : Th} (h : ThAt lo hi E w x) (q : G S w w') (hS : ∀ i, S i → (i < lo ∨ hi ≤ i) ∧ i ≠ x.b) : ThAt lo hi E w' x := by
  obtain ⟨o, m, c, h1, h2⟩ := h.obj
  exact ⟨⟨o, m, c, q.obj (fun hs => (hS _ hs).2 rfl) h1, q.held h2 (fun i h3 h4 hs => by have := (hS i hs).1; omega)⟩, h.right, h.made⟩
theorem ThAt.moreE {lo hi : Nat} {E E' : List Ent} {w : World} {x : Th} (h : ThAt lo hi E w x) (hE : ∀ e ∈ E, e ∈ E') : ThAt lo hi E' w x :=
  ⟨h.obj, h.right, fun p hp => let ⟨e, h1, h2⟩ := h.made p hp; ⟨e, hE e h1, h2⟩⟩
/-- What of a board never turns. -/
structure Bp where
  b : Nat
  lo : Nat
  hi : Nat
  c : Nat
  bm : Nat
  base : Nat
  mw : Nat
  mt : Nat
  top : Nat
  wv : Value
  tv : Value
  fv : Value
  d : Dk
  bw : List Nat
  bt : List Nat
/-- The blocks of a board that turn. -/
def Bp.S (P : Bp) (i : Nat) : Prop := i = P.c ∨ i = P.bm ∨ i ∈ P.bw ++ P.bt
/-- A board in memory. -/
structure BoardM (P : Bp) (w : World) (n : Nat) (E : List Ent) (X : List Th) : Prop where
  obj : w.heap[P.b]? = some (.cells #[P.wv, P.tv, P.fv, .pointer (some ⟨P.c, 0, none⟩), .map (some P.mw), .map (some P.mt)] 164 (0, 0))
  dk : Held (fun w => IsDk w P.wv P.tv P.fv P.d) P.lo P.hi w
  right : rightD P.d = true
  cache : CacheC CTab w P.c P.bm P.base n E
  wm : ThMap w P.mw (P.d.ws.map (·.n)) P.bw
  tm : ThMap w P.mt (P.d.ts.map (·.n)) P.bt
  lohi : P.lo ≤ P.hi
  hibm : P.hi ≤ P.bm
  bamw : P.base ≤ P.mw
  mwmt : P.mw < P.mt
  mtb : P.mt < P.b
  btop : P.b < P.top
  top : P.top ≤ w.heap.size
  bX : X.map (·.b) = P.bw ++ P.bt
  blt : ∀ x ∈ X, P.b < x.b ∧ x.b < P.top
  bap : X.Pairwise (fun x y => x.b ≠ y.b)
  ents : ∀ e ∈ E, P.top ≤ e.b
  things : ∀ x ∈ X, ThAt P.lo P.hi E w x
  xw : ∀ (i : Nat) r, P.d.ws[i]? = some r → ∃ x, X[i]? = some x ∧ x.i = i ∧ x.l = r.l
  xt : ∀ (i : Nat) r, P.d.ts[i]? = some r → ∃ x, X[P.d.ws.length + i]? = some x ∧ x.i = i ∧ x.l = r.l
  wl : P.bw.length = P.d.ws.length
  tl : P.bt.length = P.d.ts.length
  cnt : n = (X.filter (fun x => x.p.isSome)).length
  few : E.length ≤ n
section
variable {P : Bp} {w w' : World} {n : Nat} {E : List Ent} {X : List Th}
theorem right_few {d : Dk} (h : rightD d = true) : d.ws.length ≤ 8 ∧ d.ts.length ≤ 4 := by
  unfold rightD at h
  simp only [Bool.and_eq_true, decide_eq_true_eq] at h
  exact ⟨h.1.1.1.1, h.1.1.1.2⟩
theorem BoardM.inS (h : BoardM P w n E X) : ∀ i, P.S i → i = P.c ∨ i = P.bm ∨ ∃ x ∈ X, x.b = i := fun i hi => by
  rcases hi with h1 | h1 | h1
  · exact .inl h1
  · exact .inr (.inl h1)
  · rw [← h.bX] at h1
    obtain ⟨x, hx, e⟩ := List.mem_map.1 h1
    exact .inr (.inr ⟨x, hx, e⟩)
theorem BoardM.sLow (h : BoardM P w n E X) : ∀ i, P.S i → P.hi ≤ i ∧ i < P.top := fun i hi => by
  have h1 := h.cache.lt
  have h2 := h.cache.lb
  have h3 := h.hibm
  have h4 := h.bamw
  have h5 := h.mwmt
  have h6 := h.mtb
  have h7 := h.btop
  rcases h.inS i hi with rfl | rfl | ⟨x, hx, rfl⟩
  · omega
  · omega
  · have := h.blt x hx; omega
theorem BoardM.keepG {S : Nat → Prop} (h : BoardM P w n E X) (q : G S w w') (hS : ∀ i, S i → i < P.lo) : BoardM P w' n E X := by
  have h1 := h.cache.lt
  have h2 := h.cache.lb
  have h3 := h.hibm
  have h4 := h.bamw
  have h5 := h.mwmt
  have h6 := h.mtb
  have h7 := h.btop
  have h8 := h.lohi
  have no : ∀ i, P.lo ≤ i → ¬ S i := fun i hi hs => by have := hS i hs; omega
  exact ⟨q.obj (no _ (by omega)) h.obj, q.held h.dk (fun i h1 _ => no i h1), h.right, CacheM.g h.cache q (fun i hi => by have := hS i hi; omega),
    h.wm.g q (no _ (by omega)), h.tm.g q (no _ (by omega)), h.lohi, h.hibm, h.bamw, h.mwmt, h.mtb, h.btop, Nat.le_trans h.top q.size, h.bX, h.blt, h.bap, h.ents,
    fun x hx => (h.things x hx).g q (fun i hi => by have := hS i hi; have := h.blt x hx; omega), h.xw, h.xt, h.wl, h.tl, h.cnt, h.few⟩
theorem BoardM.keepB (h : BoardM P w n E X) (q : B w w') : BoardM P w' n E X := h.keepG (q.g (fun _ => False)) (fun _ h => h.elim)
theorem filter_set : ∀ (X : List Th) (k : Nat) (x y : Th), X[k]? = some x → x.p.isSome = false → y.p.isSome = true → ((X.set k y).filter (fun x => x.p.isSome)).length = (X.filter (fun x => x.p.isSome)).length + 1
  | [], _, _, _, h, _, _ => by simp at h
  | z :: X, 0, x, y, h, hx, hy => by
    obtain rfl : z = x := by simpa using h
    rw [List.set_cons_zero, List.filter_cons, List.filter_cons]
    simp [hx, hy]
  | z :: X, k + 1, x, y, h, hx, hy => by
    have ih := filter_set X k x y (by simpa using h) hx hy
    rw [List.set_cons_succ, List.filter_cons, List.filter_cons]
    split
    · simp [ih]
    · exact ih
theorem map_b_set : ∀ (X : List Th) (k : Nat) (x y : Th), X[k]? = some x → y.b = x.b → (X.set k y).map (·.b) = X.map (·.b)
  | [], _, _, _, h, _ => by simp at h
  | z :: X, 0, x, y, h, hy => by
    obtain rfl : z = x := by simpa using h
    simp [hy]
  | z :: X, k + 1, x, y, h, hy => by
    have ih := map_b_set X k x y (by simpa using h) hy
    simp [ih]
theorem mem_set_or {X : List Th} {k : Nat} {y z : Th} (h : z ∈ X.set k y) : z = y ∨ ∃ j, j ≠ k ∧ X[j]? = some z := by
  obtain ⟨j, hj⟩ := List.getElem?_of_mem h
  by_cases e : k = j
  · subst e
    rw [List.getElem?_set] at hj
    simp only [if_true] at hj
    split at hj
    · exact .inl (Option.some.inj hj).symm
    · cases hj
  · rw [List.getElem?_set_ne e] at hj
    exact .inr ⟨j, fun e' => e e'.symm, hj⟩
theorem pair_ne {X : List Th} (h : X.Pairwise (fun x y => x.b ≠ y.b)) : ∀ {i j : Nat} {x y : Th}, X[i]? = some x → X[j]? = some y → i ≠ j → x.b ≠ y.b := by
  induction X with
  | nil => intro i j x y hx; simp at hx
  | cons z X ih =>
    rw [List.pairwise_cons] at h
    intro i j x y hx hy hij
    match i, j with
    | 0, 0 => exact absurd rfl hij
    | 0, j + 1 =>
      obtain rfl : z = x := by simpa using hx
      exact h.1 y (List.mem_of_getElem? (by simpa using hy))
    | i + 1, 0 =>
      obtain rfl : z = y := by simpa using hy
      exact fun e => h.1 x (List.mem_of_getElem? (by simpa using hx)) e.symm
    | i + 1, j + 1 => exact ih h.2 (by simpa using hx) (by simpa using hy) (by omega)
/-- A thing's table is made. -/
theorem BoardM.made {k : Nat} {x : Th} {e0 : Ent} {E' : List Ent} {o : Option Addr} {m cp : Nat} (h : BoardM P w n E X) (hx : X[k]? = some x) (hxp : x.p = none) (q : G (fun i => i = P.c ∨ i = P.bm ∨ i = x.b) w w')
    (hob : w'.heap[x.b]? = some (.cells #[.int .i64 x.i, .slice o m cp, .int .u32 1, .int .i32 0, .int .u32 0, e0.p] 178 (0, 0))) (hsec : Held (fun w => IsSecs w (.slice o m cp) x.l) P.lo P.hi w)
    (hC : CacheC CTab w' P.c P.bm P.base (n + 1) E') (he : e0 ∈ E') (hel : e0.l = x.l) (hE : E' = E ∨ (∀ e ∈ E, e.l ≠ x.l) ∧ w.heap.size ≤ e0.b ∧ E' = E ++ [e0]) :
    BoardM P w' (n + 1) E' (X.set k { x with p := some e0.p }) := by
  have h1 := h.cache.lt
  have h2 := h.cache.lb
  have h3 := h.hibm
  have h4 := h.bamw
  have h5 := h.mwmt
  have h6 := h.mtb
  have h7 := h.btop
  have h8 := h.lohi
  have hxm := List.mem_of_getElem? hx
  have hxb := h.blt x hxm
  have hEE : ∀ e ∈ E, e ∈ E' := fun e h9 => by
    rcases hE with rfl | ⟨_, _, rfl⟩
    · exact h9
    · exact List.mem_append_left _ h9
  have no : ∀ i, (i < P.hi ∨ (P.base ≤ i ∧ i ≤ P.b)) → ¬ (i = P.c ∨ i = P.bm ∨ i = x.b) := fun i hi hs => by
    rcases hs with rfl | rfl | rfl <;> omega
  refine ⟨q.obj (no _ (by omega)) h.obj, q.held h.dk (fun i _ h9 => no i (by omega)), h.right, hC, h.wm.g q (no _ (by omega)), h.tm.g q (no _ (by omega)), h.lohi, h.hibm, h.bamw, h.mwmt, h.mtb, h.btop, Nat.le_trans h.top q.size,
    (map_b_set X k x _ hx (by rfl)).trans h.bX, fun z hz => ?_, ?_, fun e he => ?_, fun z hz => ?_, fun i r hr => ?_, fun i r hr => ?_, h.wl, h.tl, ?_, ?_⟩
  · rcases mem_set_or hz with rfl | ⟨j, _, hj⟩
    · exact hxb
    · exact h.blt z (List.mem_of_getElem? hj)
  · have e := (map_b_set X k x { x with p := some e0.p } hx (by rfl))
    have hp := h.bap
    have a1 : (X.map (·.b)).Pairwise (fun a b => a ≠ b) := List.pairwise_map.2 hp
    rw [← e] at a1
    exact List.pairwise_map.1 a1
  · rcases hE with rfl | ⟨_, h9, rfl⟩
    · exact h.ents e he
    · rcases List.mem_append.1 he with he | he
      · exact h.ents e he
      · obtain rfl := List.mem_singleton.1 he
        exact Nat.le_trans h.top h9
  · rcases mem_set_or hz with rfl | ⟨j, hj, hz'⟩
    · exact ⟨⟨o, m, cp, hob, q.held hsec (fun i _ h9 => no i (by omega))⟩, (h.things x hxm).right, fun p hp => ⟨e0, he, Option.some.inj hp, hel⟩⟩
    · have hzm := List.mem_of_getElem? hz'
      refine ((h.things z hzm).g q (fun i hi => ?_)).moreE hEE
      have hzb := h.blt z hzm
      have hne := pair_ne h.bap hz' hx hj
      rcases hi with rfl | rfl | rfl
      · omega
      · omega
      · exact ⟨by omega, fun e => hne e.symm⟩
  · obtain ⟨y, hy, hy1, hy2⟩ := h.xw i r hr
    by_cases e : k = i
    · subst e
      obtain rfl : x = y := Option.some.inj (hx.symm.trans hy)
      have hk : k < X.length := (List.getElem?_eq_some_iff.1 hx).1
      exact ⟨_, List.getElem?_set_self hk, hy1, hy2⟩
    · exact ⟨y, (List.getElem?_set_ne e).trans hy, hy1, hy2⟩
  · obtain ⟨y, hy, hy1, hy2⟩ := h.xt i r hr
    by_cases e : k = P.d.ws.length + i
    · subst e
      obtain rfl : x = y := Option.some.inj (hx.symm.trans hy)
      have hk := (List.getElem?_eq_some_iff.1 hx).1
      exact ⟨_, List.getElem?_set_self hk, hy1, hy2⟩
    · exact ⟨y, (List.getElem?_set_ne e).trans hy, hy1, hy2⟩
  · rw [filter_set X k x _ hx (by rw [hxp]; rfl) rfl, ← h.cnt]
  · have := h.few
    rcases hE with rfl | ⟨_, _, rfl⟩
    · omega
    · simp; omega
end
end Go.Proofs.YtjdkhobkdlldnaaGreatDoor

namespace Go.Proofs.YtjdkhobkdlldnaaGreatDoor
open Go.RowKit
set_option linter.unusedVariables false
theorem B.map {a w : World} (h : B a w) (es : Array MapEntry) (k : Nat) : B a (w.alloc (.map es k)) := ⟨h.below.alloc h.below.size _⟩
theorem new_at (T : World → Value → List (Int × Int) → Prop) (w : World) : CacheC T ((w.alloc (.map #[] 0)).alloc (.cells #[.int .i64 0, .int .i64 0, .int .i32 0, .int .u32 0, .map (some w.heap.size)] 204)) (w.heap.size + 1) w.heap.size (w.heap.size + 2) 0 [] := by
  have o := obj_new (w.alloc (.map #[] 0)) (.cells #[.int .i64 0, .int .i64 0, .int .i32 0, .int .u32 0, .map (some w.heap.size)] 204)
  have e : (w.alloc (.map #[] 0)).heap.size = w.heap.size + 1 := by simp
  rw [e] at o
  refine ⟨o, ⟨_, (World.ownsMap_made w Tryz.prog 9 ptrElem).alloc _, fun l => rfl⟩, by omega, by omega, by simp, fun _ h => (by cases h), List.Pairwise.nil⟩
set_option maxRecDepth 100000 in
set_option maxHeartbeats 1600000 in
theorem cnew_any (T : World → Value → List (Int × Int) → Prop) (w : World) : Calls Tryz.prog 81 #[] w fun e w' => ∃ c bm base, e = .returned (.pointer (some ⟨c, 0, none⟩)) ∧ CacheC T w' c bm base 0 [] ∧ w.heap.size ≤ bm ∧ w'.heap.size = base ∧ B w w' := by
  have hmm := @run_makeMap Tryz.prog
  have hC := new_at T w
  have hB : B w ((w.alloc (.map #[] 0)).alloc (.cells #[.int .i64 0, .int .i64 0, .int .i32 0, .int .u32 0, .map (some w.heap.size)] 204)) := ((B.refl w).map _ _).alloc _ _
  have hs : ((w.alloc (.map #[] 0)).alloc (.cells #[.int .i64 0, .int .i64 0, .int .i32 0, .int .u32 0, .map (some w.heap.size)] 204)).heap.size = w.heap.size + 2 := by simp
  have HC := Lib.hid hC
  have HB := Lib.hid hB
  have HS := Lib.hid hs
  clear hC hB hs
  go_enter Tryz.func81, Tryz.ntmps81
  go_wp2
  go_ret
  exact ⟨_, _, _, rfl, HC.out, Nat.le_refl _, HS.out, HB.out⟩
end Go.Proofs.YtjdkhobkdlldnaaGreatDoor
