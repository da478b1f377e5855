/-
 Contracts and what they rest on.
-/
import Derived.Deep.AppendLies
import Derived.OwnWalk
import Derived.Test.YtglniapfnhedoaaGreatDoorY3
namespace Go.Proofs.YtglniapfnhedoaaGreatDoor
open Go.RowKit
def outerOf : Nat → List Sec
 | 0 => [⟨true, 5000, 500, 0, 800, 0⟩, ⟨true, 30000, 800, 0, 1500, 0⟩]
 | 1 => [⟨true, 20000, 700, 0, 2500, 0⟩]
 | _ => [⟨true, 900, 300, 0, 600, 0⟩]
theorem outer_right : ∀ m : Nat, rightS (outerOf m) = true
 | 0 => by decide
 | 1 => by decide
 | n + 2 => by rw [show outerOf (n + 2) = outerOf 2 from rfl]; decide
theorem outer_len : ∀ m : Nat, 1 ≤ (outerOf m).length
 | 0 => by decide
 | 1 => by decide
 | n + 2 => by rw [show outerOf (n + 2) = outerOf 2 from rfl]; decide
theorem outer_pick (w : World) (m : Nat) (h : m < 3) : ∃ V, [Value.slice (some ⟨w.heap.size, 0, none⟩) 2 2, Value.slice (some ⟨w.heap.size + 1, 0, none⟩) 1 1, Value.slice (some ⟨w.heap.size + 1 + 1, 0, none⟩) 1 1][m]? = some V := by
 match m, h with
 | 0, _ => exact ⟨_, rfl⟩
 | 1, _ => exact ⟨_, rfl⟩
 | 2, _ => exact ⟨_, rfl⟩
theorem outer_blocks (w : World) (m : Nat) (V : Value) (hm : m < 3) (h : [Value.slice (some ⟨w.heap.size, 0, none⟩) 2 2, Value.slice (some ⟨w.heap.size + 1, 0, none⟩) 1 1, Value.slice (some ⟨w.heap.size + 1 + 1, 0, none⟩) 1 1][m]? = some V) : ∀ g, V.ownBlock = some g → w.heap.size ≤ g := by
 intro g hg
 match m, hm with
 | 0, _ => obtain rfl := Option.some.inj h; have e := Option.some.inj hg; simp at e; omega
 | 1, _ => obtain rfl := Option.some.inj h; have e := Option.some.inj hg; simp at e; omega
 | 2, _ => obtain rfl := Option.some.inj h; have e := Option.some.inj hg; simp at e; omega
set_option maxHeartbeats 4000000 in
theorem outer_new (k : Int) (h1 : 0 ≤ k) (h2 : k ≤ 255) (w : World) :
  Calls Tryz.prog 18 #[.int .u8 k] w fun e w' => ∃ v, e = .returned v ∧ IsSecs w' v (outerOf (k % 3).toNat) ∧ Q w w' ∧ ∀ g, v.ownBlock = some g → w.heap.size ≤ g := by
 obtain ⟨V, hp⟩ := outer_pick w (k % 3).toNat (by omega)
 have HP := Lib.hid hp
 have hm : (k % 3).toNat < 3 := by omega
 have HM := Lib.hid hm
 clear hm
 go_enter Tryz.func18, Tryz.ntmps18
 go_wp2
 go_ret
 refine ⟨V, rfl, ?_, ?_, outer_blocks w _ V HM.out HP.out⟩
 ·clear hp h1 h2
  have hp := HP.out
  have hm := HM.out
  clear HP HM
  generalize (k % 3).toNat = m at *
  match m, hm with
  | 0, _ =>
   obtain rfl : Value.slice (some ⟨w.heap.size, 0, none⟩) 2 2 = V := Option.some.inj hp
   exact (isSecs_new (l := outerOf 0) rfl (by simp) (fitsB_I (by decide)) (by decide) (by decide)).keep ((((Q.refl _).alloc _ _).alloc _ _).alloc _ _)
  | 1, _ =>
   obtain rfl : Value.slice (some ⟨w.heap.size + 1, 0, none⟩) 1 1 = V := Option.some.inj hp
   exact (isSecs_new (l := outerOf 1) rfl (by simp) (fitsB_I (by decide)) (by decide) (by decide)).keep (((Q.refl _).alloc _ _).alloc _ _)
  | 2, _ =>
   obtain rfl : Value.slice (some ⟨w.heap.size + 1 + 1, 0, none⟩) 1 1 = V := Option.some.inj hp
   exact (isSecs_new (l := outerOf 2) rfl (by simp) (fitsB_I (by decide)) (by decide) (by decide)).keep ((Q.refl _).alloc _ _)
 ·exact ((((((Q.refl _).alloc _ _).alloc _ _).alloc _ _).alloc _ _))
end Go.Proofs.YtglniapfnhedoaaGreatDoor
namespace Go.Proofs.YtglniapfnhedoaaGreatDoor
open Go.RowKit
def nameT1 : ByteArray := ⟨#[116, 49]⟩
def nameT2 : ByteArray := ⟨#[116, 50]⟩
def namePlate : ByteArray := ⟨#[112, 108, 97, 116, 101]⟩
def nameTube : ByteArray := ⟨#[116, 117, 98, 101]⟩
def wares7 (a b c d : Int) : List Rec := [⟨namePlate, a / 6 % 3 + 1, b / 6 % 4 + 2, c % 4 * 500, shapeOf (a % 6).toNat⟩, ⟨nameTube, 1, c / 4 % 3 + 2, d % 3 * 300, shapeOf (b % 6).toNat⟩]
def cap7 (c : Int) : Int := if c % 3 = 0 then 200000 else if c % 3 = 1 then 30000 else 5000
def filt7 (d : Int) : Int := if d % 2 = 0 then 60000 else 15000
def err7 (d : Int) : Int := if d / 2 % 3 = 0 then 0 else if d / 2 % 3 = 1 then 20 else 100
def tips7 (c d : Int) : List Rec := ⟨nameT1, cap7 c, filt7 d, err7 d, outerOf (c % 3).toNat⟩ :: if d % 5 = 0 then [] else [⟨nameT2, 50000, 40000, d % 30, outerOf (d % 3).toNat⟩]
theorem tipInfo : (Tryz.prog.info? 35).map (fun i => (i.zero, i.size, i.bytes)) = some (some (.agg #[.string ⟨#[]⟩, .int .i64 0, .int .i64 0, .int .i64 0, .slice none 0 0]), 5, 64) := by kernel_rfl
end Go.Proofs.YtglniapfnhedoaaGreatDoor
namespace Go.Proofs.YtglniapfnhedoaaGreatDoor
open Go.RowKit
def kindO : Obj → Option (Option TypeId)
 | .cells _ t (0, 0) => some (some t)
 | .map _ _ => some none
 | _ => none
structure Tn (K : List (Option TypeId)) (base : Nat) (w w' : World) : Prop where
 os : w'.os = w.os
 tape : w'.tape = w.tape
 output : w'.output = w.output
 size : w.heap.size ≤ w'.heap.size
 block : ∀ i, i < w.heap.size → w'.heap[i]? = w.heap[i]? ∨ (base ≤ i ∧ ∃ k o, k ∈ K ∧ w.heap[i]? = some o ∧ kindO o = some k)
section
variable {K : List (Option TypeId)} {base : Nat} {a b c w w' : World}
theorem Tn.refl (K : List (Option TypeId)) (base : Nat) (w : World) : Tn K base w w := ⟨rfl, rfl, rfl, Nat.le_refl _, fun _ _ => .inl rfl⟩
theorem Tn.trans (h : Tn K base a b) (k : Tn K base b c) : Tn K base a c := by
 refine ⟨k.os.trans h.os, k.tape.trans h.tape, k.output.trans h.output, Nat.le_trans h.size k.size, fun i hi => ?_⟩
 rcases h.block i hi with h1 | h1
 ·rcases k.block i (Nat.lt_of_lt_of_le hi h.size) with k1 | ⟨k1, q', p, hq', k2, k3⟩
  ·exact .inl (k1.trans h1)
  ·exact .inr ⟨k1, q', p, hq', h1 ▸ k2, k3⟩
 ·exact .inr h1
theorem Tn.mono {K' : List (Option TypeId)} {base' : Nat} (h : Tn K base a b) (hK : ∀ k ∈ K, k ∈ K') (hb : base' ≤ base) : Tn K' base' a b :=
 ⟨h.os, h.tape, h.output, h.size, fun i hi => (h.block i hi).imp id fun ⟨h1, k, o, h2, h3⟩ => ⟨by omega, k, o, hK k h2, h3⟩⟩
theorem B.tn (h : B a b) (K : List (Option TypeId)) (base : Nat) : Tn K base a b := ⟨h.below.os, h.below.tape, h.below.output, h.below.size, fun i hi => .inl (h.below.block i hi)⟩
theorem Tn.below (h : Tn K base a b) {B0 : Nat} (hb : B0 ≤ base) (hs : B0 ≤ a.heap.size) : Below B0 a b :=
 ⟨h.os, h.tape, h.output, h.size, fun k hk => (h.block k (by omega)).elim id fun ⟨h1, _⟩ => by omega⟩
theorem Tn.toB {W : World} (h : Tn K base a b) (hB : B W a) (hb : W.heap.size ≤ base) : B W b := ⟨hB.below.trans (h.below hb hB.below.size)⟩
theorem Tn.obj (h : Tn K base a b) {i : Nat} {o : Obj} (ho : a.heap[i]? = some o) (hk : ∀ k ∈ K, kindO o ≠ some k) : b.heap[i]? = some o := by
 rcases h.block i (Array.getElem?_eq_some_iff.1 ho).1 with h1 | ⟨_, k, p, h1, h2, h3⟩
 ·exact h1.trans ho
 ·obtain rfl : p = o := Option.some.inj (h2.symm.trans ho)
  exact absurd h3 (hk k h1)
theorem Tn.objc (h : Tn K base a b) {i : Nat} {cs : Array Value} {t : TypeId} (ho : a.heap[i]? = some (.cells cs t (0, 0))) (hK : some t ∉ K) : b.heap[i]? = some (.cells cs t (0, 0)) :=
 h.obj ho fun k hk e => by
  have : some t = k := Option.some.inj e
  exact hK (this ▸ hk)
theorem Tn.objm (h : Tn K base a b) {i : Nat} {es : Array MapEntry} {c : Nat} (ho : a.heap[i]? = some (.map es c)) (hK : none ∉ K) : b.heap[i]? = some (.map es c) :=
 h.obj ho fun k hk e => by
  have : none = k := Option.some.inj e
  exact hK (this ▸ hk)
theorem Tn.dr (h : Tn K base a b) (k : Dr b c) : Tn K base a c := by
 obtain ⟨n, rfl⟩ := k
 exact ⟨h.os, h.tape, h.output, h.size, h.block⟩
theorem Tn.drew (h : Tn K base a b) : Tn K base a b.drew := ⟨h.os, h.tape, h.output, h.size, h.block⟩
theorem Tn.drewN (h : Tn K base a b) (n : Nat) : Tn K base a (b.drewN n) := h.trans (((B.refl b).drewN n).tn K base)
theorem Tn.alloc (h : Tn K base a b) (cs : Array Value) (t : TypeId) : Tn K base a (b.alloc (.cells cs t)) := h.trans (((B.refl b).alloc cs t).tn K base)
theorem Tn.set (h : Tn K base a b) {p : Addr} {cs : Array Value} {t : TypeId} (ho : b.heap[p.block]? = some (.cells cs t (0, 0))) (hK : some t ∈ K) (hb : base ≤ p.block) (v : Value) : Tn K base a (b.setCell p v) := by
 refine h.trans ⟨rfl, rfl, rfl, by simp [World.setCell], fun i hi => ?_⟩
 by_cases e : i = p.block
 ·subst e
  exact .inr ⟨hb, some t, .cells cs t (0, 0), hK, ho, rfl⟩
 ·exact .inl (Below.heap_setCell _ _ _ _ e)
theorem Tn.setNew (h : Tn K base a b) {p : Addr} (hp : a.heap.size ≤ p.block) (v : Value) : Tn K base a (b.setCell p v) :=
 ⟨h.os, h.tape, h.output, by simpa [World.setCell] using h.size, fun i hi => by
  rw [Below.heap_setCell b p v i (by omega)]
  exact h.block i hi⟩
theorem set3_other (w : World) (q i : Nat) (x y z : Value) (h : i ≠ q) : (((w.setCell ⟨q, 0, none⟩ x).setCell ⟨q, 1, none⟩ y).setCell ⟨q, 2, none⟩ z).heap[i]? = w.heap[i]? := by
 rw [Below.heap_setCell _ ⟨q, 2, none⟩ _ _ h, Below.heap_setCell _ ⟨q, 1, none⟩ _ _ h, Below.heap_setCell _ ⟨q, 0, none⟩ _ _ h]
theorem ownsRow_obj {base : Nat} {e : TypeId} {size n : Nat} {v : Value} {xs : List Value} (h : w.ownsRow base e size v n xs) {i : Nat} (hi : v.ownBlock = some i) : base ≤ i ∧ ∃ cs, w.heap[i]? = some (.cells cs e (0, 0)) := by
 rcases h.2 with ⟨rfl, _⟩ | ⟨g, cap, cur, rfl, hb, hg, _⟩
 ·simp [Value.ownBlock] at hi
 ·obtain rfl : g = i := by simpa [Value.ownBlock] using hi
  exact ⟨hb, cur, hg⟩
theorem Tn.appended (h : Tn K base a b) {base' : Nat} {e : TypeId} {size n : Nat} {v : Value} {xs : List Value} (ho : b.ownsRow base' e size v n xs)
  (g : b.grownBy c v.ownBlock) (hb : base ≤ base') (hK : some e ∈ K) : Tn K base a c := by
 refine h.trans ⟨g.os, g.tape, g.output, g.size, fun i hi => ?_⟩
 by_cases he : some i = v.ownBlock
 ·obtain ⟨h1, cs, h2⟩ := ownsRow_obj ho he.symm
  exact .inr ⟨by omega, some e, _, hK, h2, rfl⟩
 ·exact .inl (g.block i hi he)
theorem rows_apart {b1 b2 : Nat} {e1 e2 : TypeId} {s1 s2 n1 n2 : Nat} {v1 v2 : Value} {x1 x2 : List Value} (h1 : w.ownsRow b1 e1 s1 v1 n1 x1) (h2 : w.ownsRow b2 e2 s2 v2 n2 x2) (he : e1 ≠ e2) : v1.ownBlock = none ∨ v1.ownBlock ≠ v2.ownBlock := by
 cases hv : v1.ownBlock with
 | none => exact .inl rfl
 | some i =>
  right
  intro e
  obtain ⟨_, cs, h3⟩ := ownsRow_obj h1 hv
  obtain ⟨_, cs', h4⟩ := ownsRow_obj h2 e.symm
  rw [h3] at h4
  cases h4
  exact he rfl
theorem obj_apart {b2 : Nat} {e2 : TypeId} {s2 n2 : Nat} {v2 : Value} {x2 : List Value} {i : Nat} {o : Obj} (ho : w.heap[i]? = some o) (h2 : w.ownsRow b2 e2 s2 v2 n2 x2) (he : kindO o ≠ some (some e2)) : v2.ownBlock ≠ some i := by
 intro e
 obtain ⟨_, cs', h4⟩ := ownsRow_obj h2 e
 rw [ho] at h4
 cases h4
 exact he rfl
theorem obj_grown {row : Option Nat} (g : w.grownBy w' row) {i : Nat} {o : Obj} (ho : w.heap[i]? = some o) (hr : row ≠ some i) : w'.heap[i]? = some o :=
 (g.block i (Array.getElem?_eq_some_iff.1 ho).1 (fun e => hr e.symm)).trans ho
end
end Go.Proofs.YtglniapfnhedoaaGreatDoor
namespace Go.Proofs.YtglniapfnhedoaaGreatDoor
open Go.RowKit
set_option linter.unusedVariables false
def Fl.cells (f : Fl) : List Value := [.string f.n, .int .i64 f.r, .int .i64 f.c, .int .i64 f.v]
def flatF (L : List Fl) : List Value := L.flatMap Fl.cells
theorem flatF_get : ∀ (L : List Fl) (i j : Nat) (r : Fl), L[i]? = some r → j < 4 → (flatF L)[i * 4 + j]? = r.cells[j]?
 | [], _, _, _, h, _ => by simp at h
 | r :: L, 0, j, r', h, hj => by
  simp at h
  subst h
  rw [Nat.zero_mul, Nat.zero_add]
  show (r.cells ++ flatF L)[j]? = _
  rw [List.getElem?_append_left (by simpa [Fl.cells] using hj)]
 | r :: L, i + 1, j, r', h, hj => by
  show (r.cells ++ flatF L)[(i + 1) * 4 + j]? = _
  rw [List.getElem?_append_right (by simp [Fl.cells]; omega), show (i + 1) * 4 + j - r.cells.length = i * 4 + j by simp [Fl.cells]; omega]
  exact flatF_get L i j r' (by simpa using h) hj
theorem flatF_snoc (L : List Fl) (f : Fl) : flatF (L ++ [f]) = flatF L ++ f.cells := by simp [flatF]
theorem flatR_snoc : ∀ (L : List Rec) (vs : List Value) (r : Rec) (v : Value), L.length = vs.length → flatR (L ++ [r]) (vs ++ [v]) = flatR L vs ++ r.cells v
 | [], [], r, v, _ => by simp [flatR]
 | [], _ :: _, _, _, h => by simp at h
 | _ :: _, [], _, _, h => by simp at h
 | x :: L, u :: vs, r, v, h => by
  show x.cells u ++ flatR (L ++ [r]) (vs ++ [v]) = (x.cells u ++ flatR L vs) ++ _
  rw [flatR_snoc L vs r v (by simpa using h), List.append_assoc]
theorem moreW_snoc : ∀ (L : List Wr) (r : Wr) (s : Sec), moreW (L ++ [r]) s = L ++ [moreR r s]
 | [], _, _ => rfl
 | [_], _, _ => rfl
 | x :: y :: L, r, s => by
  show x :: moreW ((y :: L) ++ [r]) s = _
  rw [moreW_snoc (y :: L) r s]
  rfl
def ownL (ss tt : List Value) : Bool × Nat → Option Nat
 | (true, i) => (ss[i]?).bind Value.ownBlock
 | (false, i) => (tt[i]?).bind Value.ownBlock
structure Rows (w : World) (base : Nat) (wv tv fv : Value) (d : Dk) (ss tt : List Value) : Prop where
 ws : w.ownsRow base 33 5 wv d.ws.length (flatR d.ws ss)
 ts : w.ownsRow base 35 5 tv d.ts.length (flatR d.ts tt)
 fs : w.ownsRow base 41 4 fv d.fs.length (flatF d.fs)
 sl : ss.length = d.ws.length
 tl : tt.length = d.ts.length
 sh : ∀ (i : Nat) r v, d.ws[i]? = some r → ss[i]? = some v → w.ownsRow base 37 6 v r.l.length (flat r.l)
 th : ∀ (i : Nat) r v, d.ts[i]? = some r → tt[i]? = some v → w.ownsRow base 37 6 v r.l.length (flat r.l)
 wi : ∀ r ∈ d.ws, ∀ s ∈ r.l, s.I
 ti : ∀ r ∈ d.ts, ∀ s ∈ r.l, s.I
 apart : ∀ x y k, ownL ss tt x = some k → ownL ss tt y = some k → x = y
theorem Rows.start (w : World) (base : Nat) : Rows w base (.slice none 0 0) (.slice none 0 0) (.slice none 0 0) dk0 [] [] :=
 ⟨World.ownsRow_nil _ _ _ _, World.ownsRow_nil _ _ _ _, World.ownsRow_nil _ _ _ _, rfl, rfl, fun i r v h => by simp [dk0] at h, fun i r v h => by simp [dk0] at h, fun r h => by simp [dk0] at h, fun r h => by simp [dk0] at h,
  fun x y k h => by obtain ⟨b, i⟩ := x; cases b <;> simp [ownL] at h⟩
theorem isSecs_own {w : World} {base : Nat} {e : TypeId} {v : Value} {l : List Sec} (h : w.ownsRow base e 6 v l.length (flat l)) (hI : ∀ s ∈ l, s.I) : IsSecs w v l := by
 rcases Nat.eq_zero_or_pos l.length with h0 | h0
 ·obtain rfl : l = [] := List.length_eq_zero_iff.1 h0
  rcases h.2 with ⟨rfl, _⟩ | ⟨g, cap, cur, rfl, _, _, h1, h2, _⟩
  ·exact .inl ⟨rfl, rfl⟩
  ·exact .inr ⟨_, cap, rfl, h1, h2, fun i s hs => by simp at hs⟩
 ·rcases h.2 with ⟨_, h1⟩ | ⟨g, cap, cur, rfl, h1⟩
  ·omega
  ·exact secs_own h rfl h0 hI
theorem isRecs_own {w : World} {base : Nat} {e : TypeId} {v : Value} {L : List Rec} {vs : List Value} (h : w.ownsRow base e 5 v L.length (flatR L vs)) (hv : L.length = vs.length) (hs : ∀ (i : Nat) (r : Rec) (v : Value), L[i]? = some r → vs[i]? = some v → IsSecs w v r.l) : IsRecs w v L := by
 have hh := h
 rcases hh.2 with ⟨rfl, h0⟩ | ⟨g, cap, cur, rfl, _, _, h1, h2, _⟩
 ·exact .inl ⟨rfl, List.length_eq_zero_iff.1 h0⟩
 ·exact recs_cells hv h1 h2 (fun j u hj => by have := h.cells rfl j u hj; rwa [add0] at this) hs
theorem isFls_own {w : World} {base : Nat} {e : TypeId} {v : Value} {L : List Fl} (h : w.ownsRow base e 4 v L.length (flatF L)) : IsFls w v L := by
 have hh := h
 rcases hh.2 with ⟨rfl, h0⟩ | ⟨g, cap, cur, rfl, _, _, h1, h2, _⟩
 ·exact .inl ⟨rfl, List.length_eq_zero_iff.1 h0⟩
 ·refine .inr ⟨_, cap, rfl, h1, h2, fun i f hf => ?_⟩
  have hc := fun j u hj => h.cells (g := g) rfl j u hj
  have k := fun j (hj : j < 4) u (hu : f.cells[j]? = some u) => hc (i * 4 + j) u ((flatF_get L i j f hf hj).trans hu)
  simp only [add0] at k
  rw [add0]
  exact ⟨k 0 (by omega) _ rfl, k 1 (by omega) _ rfl, k 2 (by omega) _ rfl, k 3 (by omega) _ rfl⟩
section
variable {w w' : World} {base : Nat} {wv tv fv : Value} {d : Dk} {ss tt : List Value}
theorem Rows.dk (h : Rows w base wv tv fv d ss tt) : IsDk w wv tv fv d :=
 ⟨isRecs_own h.ws h.sl.symm (fun i r v hr hv => isSecs_own (h.sh i r v hr hv) (h.wi r (List.mem_of_getElem? hr))),
  isRecs_own h.ts h.tl.symm (fun i r v hr hv => isSecs_own (h.th i r v hr hv) (h.ti r (List.mem_of_getElem? hr))), isFls_own h.fs⟩
theorem Rows.keep (h : Rows w base wv tv fv d ss tt) (hk : ∀ i, base ≤ i → ∀ cs e, (e = 33 ∨ e = 35 ∨ e = 41 ∨ e = 37) → w.heap[i]? = some (.cells cs e (0, 0)) → w'.heap[i]? = w.heap[i]?) : Rows w' base wv tv fv d ss tt := by
 have own : ∀ {e size n : Nat} {v : Value} {xs : List Value}, (e = 33 ∨ e = 35 ∨ e = 41 ∨ e = 37) → w.ownsRow base e size v n xs → w'.ownsRow base e size v n xs := fun {e size n v xs} he h => by
  refine ⟨h.1, ?_⟩
  rcases h.2 with hn | ⟨g, cap, cur, rfl, hb, hg, rest⟩
  ·exact .inl hn
  ·exact .inr ⟨g, cap, cur, rfl, hb, (hk g hb cur e he hg).trans hg, rest⟩
 exact ⟨own (by simp) h.ws, own (by simp) h.ts, own (by simp) h.fs, h.sl, h.tl, fun i r v h1 h2 => own (by simp) (h.sh i r v h1 h2), fun i r v h1 h2 => own (by simp) (h.th i r v h1 h2), h.wi, h.ti, h.apart⟩
theorem Rows.tn {K : List (Option TypeId)} {b : Nat} (h : Rows w base wv tv fv d ss tt) (t : Tn K b w w') (h1 : some 33 ∉ K) (h2 : some 35 ∉ K) (h3 : some 41 ∉ K) (h4 : some 37 ∉ K) : Rows w' base wv tv fv d ss tt :=
 h.keep fun i _ cs e he ho => by rcases he with rfl | rfl | rfl | rfl <;> exact (t.objc ho (by assumption)).trans ho.symm
theorem Rows.b (h : Rows w base wv tv fv d ss tt) (q : B w w') : Rows w' base wv tv fv d ss tt :=
 h.keep fun i _ cs e he ho => q.below.block i (obj_lt ho)
theorem nodup_nil {x : Bool × Nat} {k : Nat} : ownL (ss ++ [.slice none 0 0]) tt x = some k → ownL ss tt x = some k := by
 obtain ⟨b, i⟩ := x
 cases b
 ·exact id
 ·simp only [ownL]
  intro h
  rcases Nat.lt_trichotomy i ss.length with hi | hi | hi
  ·rwa [List.getElem?_append_left hi] at h
  ·subst hi
   rw [List.getElem?_append_right (Nat.le_refl _)] at h
   simp [Value.ownBlock] at h
  ·rw [List.getElem?_eq_none (by simp; omega)] at h
   cases h
theorem nodup_nilT {x : Bool × Nat} {k : Nat} : ownL ss (tt ++ [.slice none 0 0]) x = some k → ownL ss tt x = some k := by
 obtain ⟨b, i⟩ := x
 cases b
 ·simp only [ownL]
  intro h
  rcases Nat.lt_trichotomy i tt.length with hi | hi | hi
  ·rwa [List.getElem?_append_left hi] at h
  ·subst hi
   rw [List.getElem?_append_right (Nat.le_refl _)] at h
   simp [Value.ownBlock] at h
  ·rw [List.getElem?_eq_none (by simp; omega)] at h
   cases h
 ·exact id
theorem Rows.addW (h : Rows w base wv tv fv d ss tt) {wv' : Value} {r : Wr} (hr : r.l = []) (hg : w.grownBy w' wv.ownBlock) (ho : w'.ownsRow base 33 5 wv' (d.ws.length + 1) (flatR d.ws ss ++ r.cells (.slice none 0 0))) :
  Rows w' base wv' tv fv { d with ws := d.ws ++ [r] } (ss ++ [.slice none 0 0]) tt := by
 refine ⟨?_, h.ts.kept hg (rows_apart h.ts h.ws (by decide)), h.fs.kept hg (rows_apart h.fs h.ws (by decide)), by simp [h.sl], h.tl, fun i x v hx hv => ?_, fun i x v hx hv => (h.th i x v hx hv).kept hg (rows_apart (h.th i x v hx hv) h.ws (by decide)), fun x hx => ?_, h.ti, fun x y k hx hy => h.apart x y k (nodup_nil hx) (nodup_nil hy)⟩
 ·rw [flatR_snoc _ _ _ _ h.sl.symm]
  simpa using ho
 ·simp only at hx
  rcases Nat.lt_trichotomy i d.ws.length with hi | hi | hi
  ·rw [List.getElem?_append_left hi] at hx
   rw [List.getElem?_append_left (by rw [h.sl]; exact hi)] at hv
   exact (h.sh i x v hx hv).kept hg (rows_apart (h.sh i x v hx hv) h.ws (by decide))
  ·subst hi
   rw [List.getElem?_append_right (Nat.le_refl _)] at hx
   rw [List.getElem?_append_right (by rw [h.sl]; exact Nat.le_refl _), h.sl] at hv
   simp at hx hv
   subst hx hv
   rw [hr]
   exact World.ownsRow_nil _ _ _ _
  ·rw [List.getElem?_eq_none (by simp; omega)] at hx
   cases hx
 ·rcases List.mem_append.1 hx with hx | hx
  ·exact h.wi x hx
  ·obtain rfl := List.mem_singleton.1 hx
   rw [hr]
   simp
theorem Rows.addT (h : Rows w base wv tv fv d ss tt) {tv' : Value} {r : Wr} (hr : r.l = []) (hg : w.grownBy w' tv.ownBlock) (ho : w'.ownsRow base 35 5 tv' (d.ts.length + 1) (flatR d.ts tt ++ r.cells (.slice none 0 0))) :
  Rows w' base wv tv' fv { d with ts := d.ts ++ [r] } ss (tt ++ [.slice none 0 0]) := by
 refine ⟨h.ws.kept hg (rows_apart h.ws h.ts (by decide)), ?_, h.fs.kept hg (rows_apart h.fs h.ts (by decide)), h.sl, by simp [h.tl], fun i x v hx hv => (h.sh i x v hx hv).kept hg (rows_apart (h.sh i x v hx hv) h.ts (by decide)), fun i x v hx hv => ?_, h.wi, fun x hx => ?_, fun x y k hx hy => h.apart x y k (nodup_nilT hx) (nodup_nilT hy)⟩
 ·rw [flatR_snoc _ _ _ _ h.tl.symm]
  simpa using ho
 ·simp only at hx
  rcases Nat.lt_trichotomy i d.ts.length with hi | hi | hi
  ·rw [List.getElem?_append_left hi] at hx
   rw [List.getElem?_append_left (by rw [h.tl]; exact hi)] at hv
   exact (h.th i x v hx hv).kept hg (rows_apart (h.th i x v hx hv) h.ts (by decide))
  ·subst hi
   rw [List.getElem?_append_right (Nat.le_refl _)] at hx
   rw [List.getElem?_append_right (by rw [h.tl]; exact Nat.le_refl _), h.tl] at hv
   simp at hx hv
   subst hx hv
   rw [hr]
   exact World.ownsRow_nil _ _ _ _
  ·rw [List.getElem?_eq_none (by simp; omega)] at hx
   cases hx
 ·rcases List.mem_append.1 hx with hx | hx
  ·exact h.ti x hx
  ·obtain rfl := List.mem_singleton.1 hx
   rw [hr]
   simp
theorem Rows.addF (h : Rows w base wv tv fv d ss tt) {fv' : Value} {f : Fl} (hg : w.grownBy w' fv.ownBlock) (ho : w'.ownsRow base 41 4 fv' (d.fs.length + 1) (flatF d.fs ++ f.cells)) :
  Rows w' base wv tv fv' { d with fs := d.fs ++ [f] } ss tt := by
 refine ⟨h.ws.kept hg (rows_apart h.ws h.fs (by decide)), h.ts.kept hg (rows_apart h.ts h.fs (by decide)), ?_, h.sl, h.tl, fun i x v hx hv => (h.sh i x v hx hv).kept hg (rows_apart (h.sh i x v hx hv) h.fs (by decide)), fun i x v hx hv => (h.th i x v hx hv).kept hg (rows_apart (h.th i x v hx hv) h.fs (by decide)), h.wi, h.ti, h.apart⟩
 rw [flatF_snoc]
 simpa using ho
theorem Rows.old (h : Rows w base wv tv fv d ss tt) {x : Bool × Nat} {k : Nat} (hx : ownL ss tt x = some k) : k < w.heap.size := by
 obtain ⟨b, i⟩ := x
 cases b
 ·simp only [ownL] at hx
  cases hv : tt[i]? with
  | none => rw [hv] at hx; cases hx
  | some v =>
   rw [hv] at hx
   have hi : i < d.ts.length := by rw [← h.tl]; exact (List.getElem?_eq_some_iff.1 hv).1
   exact ((h.th i _ v (List.getElem?_eq_getElem hi) hv).lt k hx).2
 ·simp only [ownL] at hx
  cases hv : ss[i]? with
  | none => rw [hv] at hx; cases hx
  | some v =>
   rw [hv] at hx
   have hi : i < d.ws.length := by rw [← h.sl]; exact (List.getElem?_eq_some_iff.1 hv).1
   exact ((h.sh i _ v (List.getElem?_eq_getElem hi) hv).lt k hx).2
theorem apart_turn {f f' : Bool × Nat → Option Nat} {x0 : Bool × Nat} {g : Nat} (h : ∀ x y k, f x = some k → f y = some k → x = y) (h0 : f' x0 = some g) (hne : ∀ x, x ≠ x0 → f' x = f x) (hg : f x0 = some g ∨ ∀ x k, f x = some k → k ≠ g) :
  ∀ x y k, f' x = some k → f' y = some k → x = y := by
 intro x y k hx hy
 have key : ∀ z, z ≠ x0 → f' z = some g → False := fun z hz hzg => by
  rw [hne z hz] at hzg
  rcases hg with hg | hg
  ·exact hz (h z x0 g hzg hg)
  ·exact hg z g hzg rfl
 by_cases h1 : x = x0
 ·by_cases h2 : y = x0
  ·rw [h1, h2]
  ·subst h1
   rw [h0] at hx
   cases hx
   exact (key y h2 hy).elim
 ·by_cases h2 : y = x0
  ·subst h2
   rw [h0] at hy
   cases hy
   exact (key x h1 hx).elim
  ·rw [hne x h1] at hx
   rw [hne y h2] at hy
   exact h x y k hx hy
theorem flatR_last (ws0 : List Wr) (ss0 : List Value) (r : Wr) (s : Sec) (v v' : Value) (h : ws0.length = ss0.length) : (flatR (ws0 ++ [r]) (ss0 ++ [v])).set (ws0.length * 5 + 4) v' = flatR (ws0 ++ [moreR r s]) (ss0 ++ [v']) := by
 rw [flatR_snoc _ _ _ _ h, flatR_snoc _ _ _ _ h, List.set_append_right _ _ (by rw [flatR_len _ _ h]; omega), flatR_len _ _ h, Nat.add_sub_cancel_left]
 rfl
theorem Rows.addSW {w1 : World} {ws0 : List Wr} {r : Wr} {ts : List Wr} {fs : List Fl} {ss0 : List Value} {v v' : Value} {gW g cap : Nat} {s : Sec} (h : Rows w base (.slice (some ⟨gW, 0, none⟩) (ws0.length + 1) cap) tv fv ⟨ws0 ++ [r], ts, fs⟩ (ss0 ++ [v]) tt) (hs : s.I)
  (hg : w.grownBy w1 v.ownBlock) (ho : w1.ownsRow base 37 6 v' (r.l.length + 1) (flat r.l ++ s.cells)) (hv' : v'.ownBlock = some g) (hgg : v.ownBlock = some g ∨ g = w.heap.size) :
  Rows (w1.setCell ⟨gW, ws0.length * 5 + 4, none⟩ v') base (.slice (some ⟨gW, 0, none⟩) (ws0.length + 1) cap) tv fv ⟨ws0 ++ [moreR r s], ts, fs⟩ (ss0 ++ [v']) tt := by
 have hsl : ss0.length = ws0.length := by have := h.sl; simpa using this
 have hS : w.ownsRow base 37 6 v r.l.length (flat r.l) := h.sh ws0.length r v (by simp) (by rw [← hsl]; simp)
 have h1 := h.ws.kept hg (rows_apart h.ws hS (by decide))
 have h1' : w1.ownsRow base 33 5 (.slice (some ⟨gW, 0, none⟩) (ws0.length + 1) cap) (ws0.length + 1) (flatR (ws0 ++ [r]) (ss0 ++ [v])) := by simpa using h1
 obtain ⟨h2, g2⟩ := h1'.stored (ws0.length * 5 + 4) v'
 rw [flatR_last ws0 ss0 r s v v' hsl.symm] at h2
 have o1 : ∀ {e size n : Nat} {u : Value} {xs : List Value}, e ≠ 33 → w1.ownsRow base e size u n xs → (w1.setCell ⟨gW, ws0.length * 5 + 4, none⟩ v').ownsRow base e size u n xs := fun {e size n u xs} he hu => by
  refine hu.kept g2 ?_
  rcases rows_apart hu h1' he with h3 | h3
  ·exact .inl h3
  ·exact .inr h3
 have lastL : ∀ (i : Nat), i ≠ ws0.length → ∀ u, (ss0 ++ [v'])[i]? = some u → (ss0 ++ [v])[i]? = some u := fun i hi u hu => by
  rcases Nat.lt_or_ge i ss0.length with hl | hl
  ·rw [List.getElem?_append_left hl] at hu ⊢
   exact hu
  ·rw [List.getElem?_eq_none (by simp; omega)] at hu
   cases hu
 have own2 : ∀ x, x ≠ ((true, ws0.length) : Bool × Nat) → ownL (ss0 ++ [v']) tt x = ownL (ss0 ++ [v]) tt x := fun x hx => by
  obtain ⟨b, i⟩ := x
  cases b
  ·rfl
  ·have hi : i ≠ ws0.length := fun e => hx (by rw [e])
   simp only [ownL]
   rcases Nat.lt_or_ge i ss0.length with hl | hl
   ·rw [List.getElem?_append_left hl, List.getElem?_append_left hl]
   ·rw [List.getElem?_eq_none (by simp; omega), List.getElem?_eq_none (by simp; omega)]
 have hv0 : ownL (ss0 ++ [v]) tt (true, ws0.length) = v.ownBlock := by simp [ownL, ← hsl]
 have far : ∀ (x : Bool × Nat) (k : Nat) (u : Value), ownL (ss0 ++ [v]) tt x = some k → x ≠ (true, ws0.length) → u.ownBlock = some k → u.ownBlock ≠ v.ownBlock := fun x k u hx hne hu e => by
  rw [hu] at e
  exact hne (h.apart x _ k hx (hv0.trans e.symm))
 have keep : ∀ (x : Bool × Nat) (u : Value) {n : Nat} {xs : List Value}, x ≠ (true, ws0.length) → ownL (ss0 ++ [v]) tt x = u.ownBlock → w.ownsRow base 37 6 u n xs → (w1.setCell ⟨gW, ws0.length * 5 + 4, none⟩ v').ownsRow base 37 6 u n xs := fun x u {n xs} hx hu ho => by
  refine o1 (by decide) (ho.kept hg ?_)
  cases hb : u.ownBlock with
  | none => exact .inl rfl
  | some k => exact .inr (hb ▸ far x k u (hu.trans hb) hx hb)
 refine ⟨by simpa using h2, o1 (by decide) (h.ts.kept hg (rows_apart h.ts hS (by decide))), o1 (by decide) (h.fs.kept hg (rows_apart h.fs hS (by decide))), by simp [hsl], h.tl, fun i x u hx hu => ?_, fun i x u hx hu => keep (false, i) u (by simp) (by simp [ownL, hu]) (h.th i x u hx hu), fun x hx => ?_, h.ti, ?_⟩
 ·by_cases hi : i = ws0.length
  ·subst hi
   rw [← hsl] at hu
   simp at hx hu
   subst hx hu
   have := o1 (by decide) ho
   rw [← flat_snoc] at this
   simpa [moreR] using this
  ·have hu' := lastL i hi u hu
   have hx' : (ws0 ++ [r])[i]? = some x := by
    rcases Nat.lt_or_ge i ws0.length with hl | hl
    ·simp only at hx
     rw [List.getElem?_append_left hl] at hx ⊢
     exact hx
    ·simp only at hx
     rw [List.getElem?_eq_none (by simp; omega)] at hx
     cases hx
   exact keep (true, i) u (by simpa using hi) (by simp [ownL, hu']) (h.sh i x u hx' hu')
 ·rcases List.mem_append.1 hx with hx | hx
  ·exact h.wi x (List.mem_append_left _ hx)
  ·obtain rfl := List.mem_singleton.1 hx
   intro s' hs'
   rcases List.mem_append.1 hs' with hs' | hs'
   ·exact h.wi r (by simp) s' hs'
   ·obtain rfl := List.mem_singleton.1 hs'
    exact hs
 ·refine apart_turn (x0 := (true, ws0.length)) (g := g) h.apart (by simp [ownL, ← hsl, hv']) own2 ?_
  rcases hgg with hgg | hgg
  ·exact .inl (hv0.trans hgg)
  ·exact .inr fun x k hx e => by have := h.old hx; omega
theorem Rows.addST {w1 : World} {ws0 : List Wr} {r : Wr} {ws : List Wr} {fs : List Fl} {ss0 : List Value} {v v' : Value} {gW g cap : Nat} {s : Sec} (h : Rows w base wv (.slice (some ⟨gW, 0, none⟩) (ws0.length + 1) cap) fv ⟨ws, ws0 ++ [r], fs⟩ ss (ss0 ++ [v])) (hs : s.I)
  (hg : w.grownBy w1 v.ownBlock) (ho : w1.ownsRow base 37 6 v' (r.l.length + 1) (flat r.l ++ s.cells)) (hv' : v'.ownBlock = some g) (hgg : v.ownBlock = some g ∨ g = w.heap.size) :
  Rows (w1.setCell ⟨gW, ws0.length * 5 + 4, none⟩ v') base wv (.slice (some ⟨gW, 0, none⟩) (ws0.length + 1) cap) fv ⟨ws, ws0 ++ [moreR r s], fs⟩ ss (ss0 ++ [v']) := by
 have hsl : ss0.length = ws0.length := by have := h.tl; simpa using this
 have hS : w.ownsRow base 37 6 v r.l.length (flat r.l) := h.th ws0.length r v (by simp) (by rw [← hsl]; simp)
 have h1 := h.ts.kept hg (rows_apart h.ts hS (by decide))
 have h1' : w1.ownsRow base 35 5 (.slice (some ⟨gW, 0, none⟩) (ws0.length + 1) cap) (ws0.length + 1) (flatR (ws0 ++ [r]) (ss0 ++ [v])) := by simpa using h1
 obtain ⟨h2, g2⟩ := h1'.stored (ws0.length * 5 + 4) v'
 rw [flatR_last ws0 ss0 r s v v' hsl.symm] at h2
 have o1 : ∀ {e size n : Nat} {u : Value} {xs : List Value}, e ≠ 35 → w1.ownsRow base e size u n xs → (w1.setCell ⟨gW, ws0.length * 5 + 4, none⟩ v').ownsRow base e size u n xs := fun {e size n u xs} he hu => by
  refine hu.kept g2 ?_
  rcases rows_apart hu h1' he with h3 | h3
  ·exact .inl h3
  ·exact .inr h3
 have lastL : ∀ (i : Nat), i ≠ ws0.length → ∀ u, (ss0 ++ [v'])[i]? = some u → (ss0 ++ [v])[i]? = some u := fun i hi u hu => by
  rcases Nat.lt_or_ge i ss0.length with hl | hl
  ·rw [List.getElem?_append_left hl] at hu ⊢
   exact hu
  ·rw [List.getElem?_eq_none (by simp; omega)] at hu
   cases hu
 have own2 : ∀ x, x ≠ ((false, ws0.length) : Bool × Nat) → ownL ss (ss0 ++ [v']) x = ownL ss (ss0 ++ [v]) x := fun x hx => by
  obtain ⟨b, i⟩ := x
  cases b
  ·have hi : i ≠ ws0.length := fun e => hx (by rw [e])
   simp only [ownL]
   rcases Nat.lt_or_ge i ss0.length with hl | hl
   ·rw [List.getElem?_append_left hl, List.getElem?_append_left hl]
   ·rw [List.getElem?_eq_none (by simp; omega), List.getElem?_eq_none (by simp; omega)]
  ·rfl
 have hv0 : ownL ss (ss0 ++ [v]) (false, ws0.length) = v.ownBlock := by simp [ownL, ← hsl]
 have far : ∀ (x : Bool × Nat) (k : Nat) (u : Value), ownL ss (ss0 ++ [v]) x = some k → x ≠ (false, ws0.length) → u.ownBlock = some k → u.ownBlock ≠ v.ownBlock := fun x k u hx hne hu e => by
  rw [hu] at e
  exact hne (h.apart x _ k hx (hv0.trans e.symm))
 have keep : ∀ (x : Bool × Nat) (u : Value) {n : Nat} {xs : List Value}, x ≠ (false, ws0.length) → ownL ss (ss0 ++ [v]) x = u.ownBlock → w.ownsRow base 37 6 u n xs → (w1.setCell ⟨gW, ws0.length * 5 + 4, none⟩ v').ownsRow base 37 6 u n xs := fun x u {n xs} hx hu ho => by
  refine o1 (by decide) (ho.kept hg ?_)
  cases hb : u.ownBlock with
  | none => exact .inl rfl
  | some k => exact .inr (hb ▸ far x k u (hu.trans hb) hx hb)
 refine ⟨o1 (by decide) (h.ws.kept hg (rows_apart h.ws hS (by decide))), by simpa using h2, o1 (by decide) (h.fs.kept hg (rows_apart h.fs hS (by decide))), h.sl, by simp [hsl], fun i x u hx hu => keep (true, i) u (by simp) (by simp [ownL, hu]) (h.sh i x u hx hu), fun i x u hx hu => ?_, h.wi, fun x hx => ?_, ?_⟩
 ·by_cases hi : i = ws0.length
  ·subst hi
   rw [← hsl] at hu
   simp at hx hu
   subst hx hu
   have := o1 (by decide) ho
   rw [← flat_snoc] at this
   simpa [moreR] using this
  ·have hu' := lastL i hi u hu
   have hx' : (ws0 ++ [r])[i]? = some x := by
    rcases Nat.lt_or_ge i ws0.length with hl | hl
    ·simp only at hx
     rw [List.getElem?_append_left hl] at hx ⊢
     exact hx
    ·simp only at hx
     rw [List.getElem?_eq_none (by simp; omega)] at hx
     cases hx
   exact keep (false, i) u (by simpa using hi) (by simp [ownL, hu']) (h.th i x u hx' hu')
 ·rcases List.mem_append.1 hx with hx | hx
  ·exact h.ti x (List.mem_append_left _ hx)
  ·obtain rfl := List.mem_singleton.1 hx
   intro s' hs'
   rcases List.mem_append.1 hs' with hs' | hs'
   ·exact h.ti r (by simp) s' hs'
   ·obtain rfl := List.mem_singleton.1 hs'
    exact hs
 ·refine apart_turn (x0 := (false, ws0.length)) (g := g) h.apart (by simp [ownL, ← hsl, hv']) own2 ?_
  rcases hgg with hgg | hgg
  ·exact .inl (hv0.trans hgg)
  ·exact .inr fun x k hx e => by have := h.old hx; omega
end
end Go.Proofs.YtglniapfnhedoaaGreatDoor
namespace Go.Proofs.YtglniapfnhedoaaGreatDoor
open Go.RowKit
section
variable {P : Program} {ops : Array Oper} {Q : Exit → Act → World → Prop} {md : Region.Mode} {S : World → Prop} {g : Nat}
def Closed (md : Region.Mode) (ops : Array Oper) (listed : Array Bool) : Prop :=
 ∀ j oj, ops[j]? = some oj → listed.getD j false = true → ∀ e ∈ oj.after, Region.binds md e = true → listed.getD e.on false = true
theorem getD_set_eq {listed : Array Bool} {i : Nat} (d : Bool) (h : i < listed.size) : (listed.setIfInBounds i true).getD i d = true := by
 rw [Array.getD_eq_getD_getElem?, Array.getElem?_setIfInBounds]; simp [h]
theorem getD_set_other {listed : Array Bool} {i k : Nat} (d : Bool) (h : i ≠ k) : (listed.setIfInBounds i true).getD k d = listed.getD k d := by
 rw [Array.getD_eq_getD_getElem?, Array.getD_eq_getD_getElem?, Array.getElem?_setIfInBounds, if_neg h]
theorem getD_set_grow {listed : Array Bool} {i k : Nat} (h : listed.getD k false = true) : (listed.setIfInBounds i true).getD k false = true := by
 by_cases e : i = k
 ·subst e
  by_cases c : i < listed.size
  ·exact getD_set_eq _ c
  ·rw [Array.getD_eq_getD_getElem?, Array.getElem?_eq_none (by omega)] at h; cases h
 ·rw [getD_set_other _ e]; exact h
theorem getD_flip {listed : Array Bool} {i : Nat} (h : listed.getD i true = false) : listed.getD i false = false := by
 by_cases c : i < listed.size
 ·simp [c] at h ⊢; exact h
 ·rw [Array.getD_eq_getD_getElem?, Array.getElem?_eq_none (by omega)] at h; cases h
theorem Closed.set {listed : Array Bool} (h : Closed md ops listed) {i : Nat} (hr : i ∈ Region.ready md ops listed) : Closed md ops (listed.setIfInBounds i true) := by
 intro j oj hj hl e he hb
 by_cases c : i = j
 ·subst c
  obtain ⟨_, o, ho, h2⟩ := mem_ready.1 hr
  obtain rfl := Option.some.inj (ho.symm.trans hj)
  exact getD_set_grow (h2 e he hb)
 ·rw [getD_set_other _ c] at hl
  exact getD_set_grow (h j oj hj hl e he hb)
def wpAnyG (P : Program) (md : Region.Mode) (ops : Array Oper) (Q : Exit → Act → World → Prop) (S : World → Prop) (g : Nat) : Nat → Array Bool → Act → World → Prop
 | 0, listed, a, w => Region.ready md ops listed = [] ∧ Q .normal a w
 | fuel + 1, listed, a, w =>
  (Region.ready md ops listed = [] → Q .normal a w) ∧
  ∀ i ∈ Region.ready md ops listed, wpOp P ops Q i (fun a' w' => (i ≠ g → listed.getD g false = false → S w') ∧ wpAnyG P md ops Q S g fuel (listed.setIfInBounds i true) a' w') a w
theorem wpAny_of_gate : ∀ (fuel : Nat) (listed : Array Bool) (a : Act) (w : World), wpAnyG P md ops Q S g fuel listed a w → wpAny P md ops Q fuel listed a w
 | 0, _, _, _, h => h
 | fuel + 1, _, _, _, h => ⟨h.1, fun i hi => wpOp_mono (fun a' w' h' => wpAny_of_gate fuel _ a' w' h'.2) (h.2 i hi)⟩
def Behind (md : Region.Mode) (ops : Array Oper) (i g : Nat) : Prop :=
 ∀ listed, Closed md ops listed → listed.getD i true = false → listed.getD g false = false ∧ g ∉ Region.ready md ops listed
theorem wpAnyG_first {i : Nat} {oi : Oper} {v : Value} {T : World → Prop} (hi : ops[i]? = some oi) (hsel : ∀ (j : Nat) (o : Oper) cs b, ops[j]? = some o → o.op ≠ .select cs b) (hig : i ≠ g)
  (hT : (∀ w, T w) ∨ ((∀ w, S w → T w) ∧ Behind md ops i g)) (hQ : ∀ c a w, Q (.panic c) (a.put oi.dst v) w → Q (.panic c) a w) :
  ∀ (fuel : Nat) (listed : Array Bool) (a : Act) (w : World), Closed md ops listed →
   (∀ j oj, ops[j]? = some oj → j ≠ i → listed.getD j true = false → (∀ e ∈ oj.after, Region.binds md e = true → e.on ≠ i) → oi.apart ops oj = true) →
   i ∈ Region.ready md ops listed → YieldsIf P ops T oi v a → T w → (listed.getD g false = false → S w) →
   wpAnyG P md ops Q S g fuel (listed.setIfInBounds i true) (a.put oi.dst v) w → wpAnyG P md ops Q S g (fuel + 1) listed a w := by
 intro fuel
 induction fuel with
 | zero =>
  intro listed a w _ _ hr hy hTw hSw H
  refine ⟨fun h => (by rw [h] at hr; cases hr), fun j hj => ?_⟩
  by_cases hji : j = i
  ·subst hji; exact hy.wpOp hi hTw ⟨fun _ h => hSw h, H⟩
  ·have := ready_mono hj hji
   rw [H.1] at this
   cases this
 | succ fuel ih =>
  intro listed a w hcl hfree hr hy hTw hSw H
  refine ⟨fun h => (by rw [h] at hr; cases hr), fun j hj => ?_⟩
  by_cases hji : j = i
  ·subst hji; exact hy.wpOp hi hTw ⟨fun _ h => hSw h, H⟩
  ·have h1 := H.2 j (ready_mono hj hji)
   obtain ⟨hjun, oj, hoj, hall⟩ := mem_ready.1 hj
   have hiun := (mem_ready.1 hr).1
   have hnot : ∀ e ∈ oj.after, Region.binds md e = true → e.on ≠ i := fun e he hb heq => by
    have h1 := hall e he hb
    rw [heq, getD_flip hiun] at h1
    cases h1
   have h2 := wpOp_putIf hoj (hfree j oj hoj hji hjun hnot) (fun cs b => hsel i oi cs b hi) (fun cs b => hsel j oj cs b hoj) hQ hy h1
   have hfree' : ∀ k ok, ops[k]? = some ok → k ≠ i → (listed.setIfInBounds j true).getD k true = false →
     (∀ e ∈ ok.after, Region.binds md e = true → e.on ≠ i) → oi.apart ops ok = true := fun k ok hk hki hun hno => by
    refine hfree k ok hk hki ?_ hno
    by_cases hjk : j = k
    ·subst hjk; exact hjun
    ·rw [getD_set_other true hjk] at hun; exact hun
   rw [getD_set_other _ hig] at h2
   refine wpOp_mono (fun a' w' h3 => ?_) h2
   have hS' : (listed.setIfInBounds j true).getD g false = false → S w' := fun h => by
    by_cases hjg : j = g
    ·subst hjg
     rw [getD_set_eq _ (by
      by_cases c : j < listed.size
      ·exact c
      ·rw [Array.getD_eq_getD_getElem?, Array.getElem?_eq_none (by omega)] at hjun; cases hjun)] at h
     cases h
    ·rw [getD_set_other _ hjg] at h
     exact h3.2.1 hjg h
   have hT' : T w' := by
    rcases hT with hT | ⟨hT, hB⟩
    ·exact hT w'
    ·obtain ⟨hg1, hg2⟩ := hB listed hcl hiun
     refine hT w' (h3.2.1 (fun e => hg2 (e ▸ hj)) hg1)
   refine ⟨fun h4 h5 => h3.2.1 h4 h5, ih (listed.setIfInBounds j true) a' w' (hcl.set hj) hfree' (ready_mono hr (Ne.symm hji)) h3.1 hT' hS' ?_⟩
   rw [Array.setIfInBounds_comm _ _ hji]
   exact h3.2.2
def laterOk (am : List Nat) (i later : Nat) : Bool :=
 (List.range am.length).all fun d => !later.testBit d || d == i || (List.range d).any fun e => later.testBit e && (am.getD d 0).testBit e
theorem later_unlisted (am : List Nat) (ham : ops.toList.map (amOf md) = am) (i later : Nat) (hl : laterOk am i later = true) (listed : Array Bool) (hcl : Closed md ops listed) (hi : listed.getD i false = false) :
  ∀ d, d < am.length → later.testBit d = true → listed.getD d false = false := by
 intro d
 induction d using Nat.strongRecOn with
 | _ d ih =>
  intro hd hb
  have h := List.all_eq_true.1 hl d (List.mem_range.2 hd)
  rw [hb] at h
  simp only [Bool.not_true, Bool.false_or, Bool.or_eq_true, beq_iff_eq, List.any_eq_true, List.mem_range, Bool.and_eq_true] at h
  rcases h with rfl | ⟨e, he, h1, h2⟩
  ·exact hi
  ·have hlen : am.length = ops.size := by rw [← ham]; simp
   obtain ⟨o, ho⟩ : ∃ o, ops[d]? = some o := ⟨_, Array.getElem?_eq_getElem (by omega)⟩
   have ea : am.getD d 0 = amOf md o := by
    rw [← ham, List.getD_eq_getElem?_getD, List.getElem?_map, Array.getElem?_toList, ho]; rfl
   rw [ea] at h2
   obtain ⟨x, hx, hxb, hxe⟩ := (amOf_bit md o e).1 h2
   cases c : listed.getD d false
   ·rfl
   ·have := hcl d o ho c x hx hxb
    rw [hxe, ih e he (by omega) h1] at this
    cases this
theorem behind_of (am : List Nat) (ham : ops.toList.map (amOf md) = am) (i later : Nat) (hl : laterOk am i later = true) (hg : later.testBit g = true) (hgi : g ≠ i) (hgn : g < am.length) : Behind md ops i g := by
 intro listed hcl hi
 refine ⟨later_unlisted am ham i later hl listed hcl (getD_flip hi) g hgn hg, fun hr => ?_⟩
 obtain ⟨_, o, ho, h2⟩ := mem_ready.1 hr
 have h := List.all_eq_true.1 hl g (List.mem_range.2 hgn)
 rw [hg] at h
 simp only [Bool.not_true, Bool.false_or, Bool.or_eq_true, beq_iff_eq, List.any_eq_true, List.mem_range, Bool.and_eq_true] at h
 rcases h with h | ⟨e, he, h1, h3⟩
 ·exact hgi h
 ·have ea : am.getD g 0 = amOf md o := by
   rw [← ham, List.getD_eq_getElem?_getD, List.getElem?_map, Array.getElem?_toList, ho]; rfl
  rw [ea] at h3
  obtain ⟨x, hx, hxb, hxe⟩ := (amOf_bit md o e).1 h3
  have h4 := h2 x hx hxb
  rw [hxe, later_unlisted am ham i later hl listed hcl (getD_flip hi) e (by omega) h1] at h4
  cases h4
end
def seqOkG (n g : Nat) (am cf later : List Nat) : List (Nat × Nat) → Nat → Bool
 | [], done => (List.range n).all done.testBit
 | (i, k) :: l, done => decide (i < n) && !done.testBit i && (am.getD i 0 &&& done == am.getD i 0) &&
   (if k = 2 ∨ k = 4 then (List.range n).all (fun j => j == i || done.testBit j || !(am.getD j 0 &&& done == am.getD j 0)) else (cf.getD i 0 &&& done == cf.getD i 0) && i != g) &&
   (if k = 0 then laterOk am i (later.getD i 0) && (later.getD i 0).testBit g else if k = 2 then i != g && !done.testBit g else if k = 4 then i == g || done.testBit g else true) && seqOkG n g am cf later l (done ||| 2 ^ i)
def wpSeqG (P : Program) (ops : Array Oper) (Q : Exit → Act → World → Prop) (S : World → Prop) : List (Nat × Nat) → Act → World → Prop
 | [], a, w => Q .normal a w
 | (i, k) :: l, a, w => ∃ o, ops[i]? = some o ∧
   (if k = 0 then ∃ v, (Region.wanted o (yielded ops a.tmps) = true ∧ ∀ w, S w → (execOp a.eval o).run P w = .ok (.value v) w) ∧ wpSeqG P ops Q S l (a.put o.dst v) w
   else if k = 1 then Region.wanted o (yielded ops a.tmps) = false ∧ wpSeqG P ops Q S l (a.put o.dst undef) w
   else if k = 2 then wpOp P ops Q i (fun a' w' => S w' ∧ wpSeqG P ops Q S l a' w') a w
   else if k = 3 then ∃ v, (Region.wanted o (yielded ops a.tmps) = true ∧ ∀ w, (execOp a.eval o).run P w = .ok (.value v) w) ∧ wpSeqG P ops Q S l (a.put o.dst v) w
   else k = 4 ∧ wpOp P ops Q i (fun a' w' => wpSeqG P ops Q S l a' w') a w)
theorem wpAnyG_seq {P : Program} {md : Region.Mode} {ops : Array Oper} {Q : Exit → Act → World → Prop} {S : World → Prop} (g : Nat) (am cf later : List Nat) (hgn : g < ops.size)
  (ham : ops.toList.map (amOf md) = am) (hcf : cfAll md ops ops.toList 0 = cf) (hs : Region.noSelect ops = true)
  (hQ : ∀ c a w d v, Q (.panic c) (Act.put a d v) w → Q (.panic c) a w) :
  ∀ (l : List (Nat × Nat)) (done : Nat) (listed : Array Bool) (a : Act) (w : World), Inv ops.size listed done → Closed md ops listed → seqOkG ops.size g am cf later l done = true → (done.testBit g = false → S w) →
   wpSeqG P ops Q S l a w → wpAnyG P md ops Q S g l.length listed a w := by
 have am_get : ∀ (i : Nat) (o : Oper), ops[i]? = some o → am.getD i 0 = amOf md o := by
  intro i o ho
  rw [← ham, List.getD_eq_getElem?_getD, List.getElem?_map, Array.getElem?_toList, ho]; rfl
 have am_len : am.length = ops.size := by rw [← ham]; simp
 have cf_get : ∀ (i : Nat) (o : Oper), ops[i]? = some o → cf.getD i 0 = cfOf md ops o i ops.toList 0 := by
  intro i o ho
  rw [← hcf, List.getD_eq_getElem?_getD, cfAll_get md ops ops.toList 0 i o (by rw [Array.getElem?_toList]; exact ho), Nat.zero_add]; rfl
 have is_ready : ∀ (i done : Nat) (listed : Array Bool) (o : Oper), Inv ops.size listed done → ops[i]? = some o → done.testBit i = false → (am.getD i 0 &&& done == am.getD i 0) = true → i ∈ Region.ready md ops listed := by
  intro i done listed o hI ho hd ha
  have hin : i < ops.size := (Array.getElem?_eq_some_iff.1 ho).1
  refine mem_ready.2 ⟨by rw [hI.getT hin]; exact hd, o, ho, fun e he hb => ?_⟩
  rw [hI.getF]
  rw [am_get i o ho] at ha
  exact sub_bits ha e.on ((amOf_bit md o e.on).2 ⟨e, he, hb, rfl⟩)
 have ready_is : ∀ (i done : Nat) (listed : Array Bool), Inv ops.size listed done → i ∈ Region.ready md ops listed → i < ops.size ∧ done.testBit i = false ∧ (am.getD i 0 &&& done == am.getD i 0) = true := by
  intro i done listed hI hr
  obtain ⟨h1, o, ho, h2⟩ := mem_ready.1 hr
  have hin : i < ops.size := (Array.getElem?_eq_some_iff.1 ho).1
  refine ⟨hin, by rw [← hI.getT hin]; exact h1, ?_⟩
  rw [am_get i o ho]
  refine bits_sub fun k hk => ?_
  obtain ⟨e, he, hb, rfl⟩ := (amOf_bit md o k).1 hk
  rw [← hI.getF]
  exact h2 e he hb
 intro l
 induction l with
 | nil =>
  intro done listed a w hI _ hk _ h
  refine ⟨?_, h⟩
  refine List.eq_nil_iff_forall_not_mem.2 fun i hi => ?_
  obtain ⟨h1, h2, _⟩ := ready_is i done listed hI hi
  have := List.all_eq_true.1 hk i (List.mem_range.2 h1)
  rw [h2] at this
  cases this
 | cons x l ih =>
  obtain ⟨i, k⟩ := x
  intro done listed a w hI hcl hk hS h
  unfold seqOkG at hk
  simp only [Bool.and_eq_true, decide_eq_true_eq, Bool.not_eq_true'] at hk
  obtain ⟨⟨⟨⟨⟨k1, k2⟩, k3⟩, k4⟩, k5⟩, k6⟩ := hk
  obtain ⟨o, ho, h⟩ := h
  have hr := is_ready i done listed o hI ho k2 k3
  have hI' := hI.set k1
  have hcl' := hcl.set hr
  have gbit : ∀ j, j ≠ g → (done ||| 2 ^ j).testBit g = done.testBit g := fun j hj => by
   rw [Nat.testBit_or, testBit_pow]
   simp [hj]
  have hfree : ¬ (k = 2 ∨ k = 4) → i ≠ g ∧ ∀ j oj, ops[j]? = some oj → j ≠ i → listed.getD j true = false → (∀ e ∈ oj.after, Region.binds md e = true → e.on ≠ i) → o.apart ops oj = true := by
   intro hk2
   rw [if_neg hk2] at k4
   simp only [Bool.and_eq_true, bne_iff_ne] at k4
   refine ⟨k4.2, ?_⟩
   intro j oj hj hji hun hno
   cases c : o.apart ops oj
   ·exfalso
    have hjn : j < ops.size := (Array.getElem?_eq_some_iff.1 hj).1
    have hb : (amOf md oj).testBit i = false := by
     cases e : (amOf md oj).testBit i
     ·rfl
     ·obtain ⟨x, hx, hxb, hxi⟩ := (amOf_bit md oj i).1 e
      exact absurd hxi (hno x hx hxb)
    have k4' := k4.1
    rw [cf_get i o ho] at k4'
    have := sub_bits k4' j (cfOf_bit md ops o i j oj hji hb c ops.toList 0 j (by rw [Array.getElem?_toList]; exact hj) (Nat.zero_add _))
    rw [hI.getT hjn, this] at hun
    cases hun
   ·rfl
  have only : (k = 2 ∨ k = 4) → ∀ j ∈ Region.ready md ops listed, j = i := by
   intro hk2 j hj
   rw [if_pos hk2] at k4
   obtain ⟨q1, q2, q3⟩ := ready_is j done listed hI hj
   have := List.all_eq_true.1 k4 j (List.mem_range.2 q1)
   rw [q2, q3] at this
   simpa using this
  have hSl : listed.getD g false = false → S w := fun hg => hS (by rw [← hI.getF]; exact hg)
  rw [List.length_cons]
  by_cases c0 : k = 0
  ·subst c0
   obtain ⟨hig, hfr⟩ := hfree (by omega)
   rw [if_pos rfl] at h k5
   simp only [Bool.and_eq_true] at k5
   obtain ⟨v, ⟨hw, hv⟩, h⟩ := h
   have hB := behind_of (g := g) am ham i (later.getD i 0) k5.1 k5.2 (Ne.symm hig) (by omega)
   obtain ⟨hg1, _⟩ := hB listed hcl (mem_ready.1 hr).1
   exact wpAnyG_first (T := S) ho (Region.noSelect_spec hs) hig (.inr ⟨fun _ h => h, hB⟩) (fun c a w h => hQ c a w _ _ h) l.length listed a w hcl hfr hr (Or.inl ⟨hw, hv⟩) (hSl hg1) hSl
    (ih _ _ _ _ hI' hcl' k6 (fun hg => hSl hg1) h)
  rw [if_neg c0] at h
  by_cases c1 : k = 1
  ·subst c1
   obtain ⟨hig, hfr⟩ := hfree (by omega)
   rw [if_pos rfl] at h
   exact wpAnyG_first (T := fun _ => True) ho (Region.noSelect_spec hs) hig (.inl fun _ => trivial) (fun c a w h => hQ c a w _ _ h) l.length listed a w hcl hfr hr (Or.inr ⟨h.1, rfl⟩) trivial hSl
    (ih _ _ _ _ hI' hcl' k6 (fun hg => hS (by rw [gbit i hig] at hg; exact hg)) h.2)
  rw [if_neg c1] at h
  by_cases c2 : k = 2
  ·subst c2
   rw [if_pos rfl] at h
   simp only [if_neg c0, if_true, Bool.and_eq_true, bne_iff_ne, Bool.not_eq_true'] at k5
   refine ⟨fun e => (by rw [e] at hr; cases hr), fun j hj => ?_⟩
   obtain rfl := only (Or.inl rfl) j hj
   exact wpOp_mono (fun a' w' h' => ⟨fun _ _ => h'.1, ih _ _ _ _ hI' hcl' k6 (fun _ => h'.1) h'.2⟩) h
  rw [if_neg c2] at h
  by_cases c3 : k = 3
  ·subst c3
   obtain ⟨hig, hfr⟩ := hfree (by omega)
   rw [if_pos rfl] at h
   obtain ⟨v, ⟨hw, hv⟩, h⟩ := h
   exact wpAnyG_first (T := fun _ => True) ho (Region.noSelect_spec hs) hig (.inl fun _ => trivial) (fun c a w h => hQ c a w _ _ h) l.length listed a w hcl hfr hr (Or.inl ⟨hw, fun w _ => hv w⟩) trivial hSl
    (ih _ _ _ _ hI' hcl' k6 (fun hg => hS (by rw [gbit i hig] at hg; exact hg)) h)
  rw [if_neg c3] at h
  obtain ⟨c4, h⟩ := h
  subst c4
  simp only [if_neg c0, if_neg c2, if_true, Bool.or_eq_true, beq_iff_eq] at k5
  refine ⟨fun e => (by rw [e] at hr; cases hr), fun j hj => ?_⟩
  obtain rfl := only (Or.inr rfl) j hj
  have hdone : (done ||| 2 ^ j).testBit g = true := by
   rw [Nat.testBit_or, testBit_pow]
   rcases k5 with rfl | k5
   ·simp
   ·rw [k5]; rfl
  have hls : listed.getD g false = false → j = g := fun hg => by
   rcases k5 with k5 | k5
   ·exact k5
   ·rw [hI.getF, k5] at hg; cases hg
  exact wpOp_mono (fun a' w' h' => ⟨fun hjg hg => absurd (hls hg) hjg, ih _ _ _ _ hI' hcl' k6 (fun hg => by rw [hdone] at hg; cases hg) h'⟩) h
theorem wp_region_gate {P : Program} {ops : Array Oper} {Q : Exit → Act → World → Prop} {S : World → Prop} {id : Nat} {a : Act} {w : World} (g : Nat) (l : List (Nat × Nat)) (am cf later : List Nat) (hm : P.follows .mixedOrders = true)
  (hk : (Region.noSelect ops && decide (l.length = ops.size) && decide (g < ops.size) && decide (ops.toList.map (amOf .any) = am) && decide (cfAll .any ops ops.toList 0 = cf) && seqOkG ops.size g am cf later l 0) = true)
  (hQ : ∀ c a w d v, Q (.panic c) (Act.put a d v) w → Q (.panic c) a w) (hS : S w.drew)
  (h : S w.drew → wpSeqG P ops Q S l a w.drew) : (Code.region id ops true).wp P Q a w := by
 simp only [Bool.and_eq_true, decide_eq_true_eq] at hk
 obtain ⟨⟨⟨⟨⟨h1, h2⟩, hg⟩, h3⟩, h4⟩, h5⟩ := hk
 refine wp_region_any hm ?_
 rw [← h2]
 refine wpAny_of_gate (S := S) (g := g) _ _ _ _ ?_
 have := wpAnyG_seq (P := P) (md := .any) (S := S) g am cf later hg h3 h4 h1 hQ l 0 (Array.replicate ops.size false) a w.drew (Inv.start _) (fun j oj hj hl => by
  rw [Array.getD_eq_getD_getElem?, Array.getElem?_replicate] at hl
  split at hl <;> simp at hl) h5 (fun _ => hS) (h hS)
 rw [h2] at this ⊢
 exact this
theorem wpSeqG_take {P : Program} {ops : Array Oper} {Q : Exit → Act → World → Prop} {S : World → Prop} {l : List (Nat × Nat)} {t : List Value} {df : List _} {w : World} {i d : Nat} {o : Oper} {v : Value}
  (ho : ops.toList[i]? = some o) (hd : o.dst = some d) (hw : Region.wanted o (yielded ops t.toArray) = true)
  (hy : ∀ w, S w → (execOp (Act.eval { tmps := t.toArray, defers := df }) o).run P w = .ok (.value v) w)
  (h : wpSeqG P ops Q S l { tmps := (t.set d v).toArray, defers := df } w) : wpSeqG P ops Q S ((i, 0) :: l) { tmps := t.toArray, defers := df } w := by
 refine ⟨o, by rw [← Array.getElem?_toList]; exact ho, ?_⟩
 rw [if_pos rfl]
 refine ⟨v, ⟨hw, hy⟩, ?_⟩
 have e : Act.put { tmps := t.toArray, defers := df } o.dst v = { tmps := (t.set d v).toArray, defers := df } := by
  rw [hd]; simp [Act.put]
 rw [e]
 exact h
theorem wpSeqG_free {P : Program} {ops : Array Oper} {Q : Exit → Act → World → Prop} {S : World → Prop} {l : List (Nat × Nat)} {t : List Value} {df : List _} {w : World} {i d : Nat} {o : Oper} {v : Value}
  (ho : ops.toList[i]? = some o) (hd : o.dst = some d) (hw : Region.wanted o (yielded ops t.toArray) = true)
  (hy : ∀ w, (execOp (Act.eval { tmps := t.toArray, defers := df }) o).run P w = .ok (.value v) w)
  (h : wpSeqG P ops Q S l { tmps := (t.set d v).toArray, defers := df } w) : wpSeqG P ops Q S ((i, 3) :: l) { tmps := t.toArray, defers := df } w := by
 refine ⟨o, by rw [← Array.getElem?_toList]; exact ho, ?_⟩
 rw [if_neg (by decide), if_neg (by decide), if_neg (by decide), if_pos rfl]
 refine ⟨v, ⟨hw, hy⟩, ?_⟩
 have e : Act.put { tmps := t.toArray, defers := df } o.dst v = { tmps := (t.set d v).toArray, defers := df } := by
  rw [hd]; simp [Act.put]
 rw [e]
 exact h
theorem wpSeqG_skip {P : Program} {ops : Array Oper} {Q : Exit → Act → World → Prop} {S : World → Prop} {l : List (Nat × Nat)} {t : List Value} {df : List _} {w : World} {i d : Nat} {o : Oper}
  (ho : ops.toList[i]? = some o) (hd : o.dst = some d) (hw : Region.wanted o (yielded ops t.toArray) = false) (ht : t.set d undef = t)
  (h : wpSeqG P ops Q S l { tmps := t.toArray, defers := df } w) : wpSeqG P ops Q S ((i, 1) :: l) { tmps := t.toArray, defers := df } w := by
 refine ⟨o, by rw [← Array.getElem?_toList]; exact ho, ?_⟩
 rw [if_neg (by decide), if_pos rfl]
 refine ⟨hw, ?_⟩
 have e : Act.put { tmps := t.toArray, defers := df } o.dst undef = { tmps := t.toArray, defers := df } := by
  rw [hd]; simp [Act.put, ht]
 rw [e]
 exact h
theorem wpSeqG_call {P : Program} {ops : Array Oper} {Q : Exit → Act → World → Prop} {S : World → Prop} {l : List (Nat × Nat)} {a : Act} {w : World} {i : Nat} {o : Oper}
  (ho : ops.toList[i]? = some o) (hw : Region.wanted o (yielded ops a.tmps) = true)
  (h : ∀ K' : Act → World → Prop, Shut (∀ a w, S w → (S w → wpSeqG P ops Q S l a w) → K' a w) → Oper.wp P o a w K' Q) : wpSeqG P ops Q S ((i, 2) :: l) a w := by
 rw [Array.getElem?_toList] at ho
 refine ⟨o, ho, ?_⟩
 rw [if_neg (by decide), if_neg (by decide), if_pos rfl]
 refine wpOp_step ho fun K' hK => ?_
 rw [if_pos hw]
 exact h K' fun a w hS h => hK a w ⟨hS, h hS⟩
theorem wpSeqG_gate {P : Program} {ops : Array Oper} {Q : Exit → Act → World → Prop} {S : World → Prop} {l : List (Nat × Nat)} {a : Act} {w : World} {i : Nat} {o : Oper}
  (ho : ops.toList[i]? = some o) (hw : Region.wanted o (yielded ops a.tmps) = true)
  (h : ∀ K' : Act → World → Prop, Shut (∀ a w, wpSeqG P ops Q S l a w → K' a w) → Oper.wp P o a w K' Q) : wpSeqG P ops Q S ((i, 4) :: l) a w := by
 rw [Array.getElem?_toList] at ho
 refine ⟨o, ho, ?_⟩
 rw [if_neg (by decide), if_neg (by decide), if_neg (by decide), if_neg (by decide)]
 refine ⟨rfl, wpOp_step ho fun K' hK => ?_⟩
 rw [if_pos hw]
 exact h K' fun a w h => hK a w h
theorem wpSeqG_done {P : Program} {ops : Array Oper} {Q : Exit → Act → World → Prop} {S : World → Prop} {a : Act} {w : World} (h : Q .normal a w) : wpSeqG P ops Q S [] a w := h
end Go.Proofs.YtglniapfnhedoaaGreatDoor
namespace Go.Proofs.YtglniapfnhedoaaGreatDoor
open Go.RowKit
set_option linter.unusedVariables false
def wareB (w : Wr) : Prop := 1 ≤ w.x ∧ w.x ≤ 8 ∧ 1 ≤ w.y ∧ w.y ≤ 12
theorem mul_small {a b : Int} (h1 : 0 ≤ a) (h2 : a ≤ 8) (h3 : 0 ≤ b) (h4 : b ≤ 12) : 0 ≤ a * b ∧ a * b ≤ 96 := by
 refine ⟨Int.mul_nonneg h1 h3, ?_⟩
 have := Int.mul_le_mul h2 h4 h3 (by omega : (0 : Int) ≤ 8)
 omega
theorem index_cons {ws : List Wr} {i : Nat} (hi : i < ws.length) (K : Int) (n : ByteArray) (r c : Int) : indexW (ws.drop i) K n r c = (if (ws[i]).n.toList == n.toList then (if 0 ≤ r ∧ r < (ws[i]).x ∧ 0 ≤ c ∧ c < (ws[i]).y then some (K + (r * (ws[i]).y + c)) else none) else indexW (ws.drop (i + 1)) (K + (ws[i]).x * (ws[i]).y) n r c) := by
 rw [List.drop_eq_getElem_cons hi]
 rfl
end Go.Proofs.YtglniapfnhedoaaGreatDoor
