/-
 Contracts and what they rest on.
-/
import Derived.Maps.AppendAt
import Derived.OwnWalk
import Derived.Test.YtglniapfnhedoaaGreatDoorY4
namespace Go.Proofs.YtglniapfnhedoaaGreatDoor
open Go.RowKit
theorem shape_blocks (w : World) (m : Nat) (V : Value) (hm : m < 6) (h : [Value.slice (some ⟨w.heap.size, 0, none⟩) 1 1, Value.slice (some ⟨w.heap.size + 1, 0, none⟩) 2 2, Value.slice (some ⟨w.heap.size + 1 + 1, 0, none⟩) 1 1, Value.slice (some ⟨w.heap.size + 1 + 1 + 1, 0, none⟩) 2 2, Value.slice (some ⟨w.heap.size + 1 + 1 + 1 + 1, 0, none⟩) 1 1, Value.slice (some ⟨w.heap.size + 1 + 1 + 1 + 1 + 1, 0, none⟩) 3 3][m]? = some V) : ∀ g, V.ownBlock = some g → w.heap.size ≤ g := by
 intro g hg
 match m, hm with
 | 0, _ => obtain rfl := Option.some.inj h; have e := Option.some.inj hg; simp at e; omega
 | 1, _ => obtain rfl := Option.some.inj h; have e := Option.some.inj hg; simp at e; omega
 | 2, _ => obtain rfl := Option.some.inj h; have e := Option.some.inj hg; simp at e; omega
 | 3, _ => obtain rfl := Option.some.inj h; have e := Option.some.inj hg; simp at e; omega
 | 4, _ => obtain rfl := Option.some.inj h; have e := Option.some.inj hg; simp at e; omega
 | 5, _ => obtain rfl := Option.some.inj h; have e := Option.some.inj hg; simp at e; omega
end Go.Proofs.YtglniapfnhedoaaGreatDoor
namespace Go.Proofs.YtglniapfnhedoaaGreatDoor
open Go.RowKit
set_option linter.unusedVariables false
def RowIn (w : World) (v : Value) (m : Nat) (news : List Value) : Prop :=
 (v = .slice none 0 0 ∧ m = 0 ∧ news = []) ∨ ∃ (ad : Addr) (c : Nat), v = .slice (some ad) m c ∧ ∀ j u, news[j]? = some u → w.cell? (ad.add j) = some u
theorem RowIn.keepB {w w' : World} {v : Value} {m : Nat} {news : List Value} (h : RowIn w v m news) (q : B w w') : RowIn w' v m news := by
 rcases h with h | ⟨ad, c, h1, h2⟩
 ·exact .inl h
 ·exact .inr ⟨ad, c, h1, fun j u hj => q.keep (h2 j u hj)⟩
theorem RowIn.form {w : World} {v : Value} {m : Nat} {news : List Value} (h : RowIn w v m news) : ∃ ao cap, v = .slice ao m cap := by
 rcases h with ⟨rfl, rfl, _⟩ | ⟨ad, c, rfl, _⟩
 ·exact ⟨_, _, rfl⟩
 ·exact ⟨_, _, rfl⟩
theorem ownsRow_form {w : World} {base : Nat} {e : TypeId} {size n : Nat} {v : Value} {xs : List Value} (h : w.ownsRow base e size v n xs) : ∃ o c, v = .slice o n c := by
 rcases h.2 with ⟨rfl, rfl⟩ | ⟨g, cap, cur, rfl, _⟩
 ·exact ⟨_, _, rfl⟩
 ·exact ⟨_, _, rfl⟩
end Go.Proofs.YtglniapfnhedoaaGreatDoor
namespace Go.Proofs.YtglniapfnhedoaaGreatDoor
open Go.RowKit
set_option linter.unusedVariables false
structure OwnD (w : World) (base : Nat) (wv tv fv : Value) (d : Dk) (ss tt : List Value) : Prop where
 ws : w.ownsRow base 33 5 wv d.ws.length (flatR d.ws ss)
 ts : w.ownsRow base 35 5 tv d.ts.length (flatR d.ts tt)
 fs : w.ownsRow base 41 4 fv d.fs.length (flatF d.fs)
 sl : ss.length = d.ws.length
 tl : tt.length = d.ts.length
 sh : ∀ (i : Nat) r v, d.ws[i]? = some r → ss[i]? = some v → w.ownsRow base 37 6 v r.l.length (flat r.l)
 th : ∀ (i : Nat) r v, d.ts[i]? = some r → tt[i]? = some v → w.ownsRow base 37 6 v r.l.length (flat r.l)
 wi : ∀ r ∈ d.ws, ∀ s ∈ r.l, s.I
 ti : ∀ r ∈ d.ts, ∀ s ∈ r.l, s.I
theorem OwnD.dk {w : World} {base : Nat} {wv tv fv : Value} {d : Dk} {ss tt : List Value} (h : OwnD w base wv tv fv d ss tt) : IsDk w wv tv fv d :=
 ⟨isRecs_own h.ws h.sl.symm (fun i r v hr hv => isSecs_own (h.sh i r v hr hv) (h.wi r (List.mem_of_getElem? hr))),
  isRecs_own h.ts h.tl.symm (fun i r v hr hv => isSecs_own (h.th i r v hr hv) (h.ti r (List.mem_of_getElem? hr))), isFls_own h.fs⟩
theorem own_on {w w' : World} {base e size n : Nat} {v : Value} {xs : List Value} (h : w.ownsRow base e size v n xs) (hb : ∀ i, base ≤ i → i < w.heap.size → w'.heap[i]? = w.heap[i]?) : w'.ownsRow base e size v n xs := by
 refine ⟨h.1, ?_⟩
 rcases h.2 with hn | ⟨g, cap, cur, rfl, hbg, hg, rest⟩
 ·exact .inl hn
 ·exact .inr ⟨g, cap, cur, rfl, hbg, (hb g hbg (obj_lt hg)).trans hg, rest⟩
theorem OwnD.on {w w' : World} {base : Nat} {wv tv fv : Value} {d : Dk} {ss tt : List Value} (h : OwnD w base wv tv fv d ss tt) (hb : ∀ i, base ≤ i → i < w.heap.size → w'.heap[i]? = w.heap[i]?) : OwnD w' base wv tv fv d ss tt :=
 ⟨own_on h.ws hb, own_on h.ts hb, own_on h.fs hb, h.sl, h.tl, fun i r v h1 h2 => own_on (h.sh i r v h1 h2) hb, fun i r v h1 h2 => own_on (h.th i r v h1 h2) hb, h.wi, h.ti⟩
theorem OwnD.held {w : World} {base : Nat} {wv tv fv : Value} {d : Dk} {ss tt : List Value} (h : OwnD w base wv tv fv d ss tt) : Held (fun w => IsDk w wv tv fv d) base w.heap.size w :=
 ⟨h.dk, Nat.le_refl _, fun w' hb => (h.on hb).dk⟩
theorem own_low {w : World} {base base' e size n : Nat} {v : Value} {xs : List Value} (h : w.ownsRow base e size v n xs) (hb : base' ≤ base) : w.ownsRow base' e size v n xs := by
 refine ⟨h.1, ?_⟩
 rcases h.2 with hn | ⟨g, cap, cur, rfl, hbg, rest⟩
 ·exact .inl hn
 ·exact .inr ⟨g, cap, cur, rfl, Nat.le_trans hb hbg, rest⟩
theorem own_keepBx {w w' : World} {base e size n : Nat} {v : Value} {xs : List Value} (h : w.ownsRow base e size v n xs) (q : B w w') : w'.ownsRow base e size v n xs :=
 own_on h fun i _ hi => q.below.block i hi
theorem own_objG {w w' : World} {base e t size n C : Nat} {v : Value} {xs : List Value} {cs : Array Value} (h : w.ownsRow base e size v n xs) (ho : w.heap[C]? = some (.cells cs t (0, 0))) (he : t ≠ e) (g : G (fun i => i = C) w w') : w'.ownsRow base e size v n xs := by
 refine ⟨h.1, ?_⟩
 rcases h.2 with hn | ⟨b, cap, cur, rfl, hbg, hb, rest⟩
 ·exact .inl hn
 ·refine .inr ⟨b, cap, cur, rfl, hbg, g.obj (fun hbC => ?_) hb, rest⟩
  subst hbC
  rw [ho] at hb
  simp only [Option.some.injEq, Obj.cells.injEq] at hb
  exact he hb.2.1
theorem flatR_set : ∀ (L : List Rec) (vs : List Value) (i : Nat) (v : Value), L.length = vs.length → i < L.length → (flatR L vs).set (i * 5 + 4) v = flatR L (vs.set i v)
 | [], _, i, _, _, h => by simp at h
 | _ :: _, [], _, _, h, _ => by simp at h
 | r :: L, u :: vs, 0, v, _, _ => by
  show (r.cells u ++ flatR L vs).set (0 * 5 + 4) v = r.cells v ++ flatR L vs
  rfl
 | r :: L, u :: vs, i + 1, v, h, hi => by
  show (r.cells u ++ flatR L vs).set ((i + 1) * 5 + 4) v = r.cells u ++ flatR L (vs.set i v)
  rw [List.set_append_right _ _ (by simp [Rec.cells]; omega), show (i + 1) * 5 + 4 - (r.cells u).length = i * 5 + 4 by simp [Rec.cells]; omega, flatR_set L vs i v (by simpa using h) (by simpa using hi)]
structure LpAt (L : List Rec) (w wr W1 : World) (k C n : Nat) (sv : Value) (ty : TypeId) (i : Nat) (ss : List Value) : Prop where
 len : ss.length = L.length
 row : wr.ownsRow k ty 5 sv n (flatR L ss)
 old : ∀ (j : Nat) r u, i ≤ j → L[j]? = some r → ss[j]? = some u → IsSecs w u r.l
 new : ∀ (j : Nat) r u, j < i → L[j]? = some r → ss[j]? = some u → wr.ownsRow k 37 6 u r.l.length (flat r.l)
 g : G (fun b => k ≤ b ∧ b ≠ C) W1 wr
 bw : B w wr
 own : ∀ {e size m : Nat} {v : Value} {xs : List Value}, e ≠ ty → W1.ownsRow k e size v m xs → wr.ownsRow k e size v m xs
theorem LpAt.start {L : List Rec} {w W1 : World} {k C n : Nat} {sv : Value} {ty : TypeId} {vs : List Value} (h1 : vs.length = L.length) (h2 : ∀ (i : Nat) r u, L[i]? = some r → vs[i]? = some u → IsSecs w u r.l) (bw : B w W1) (h3 : W1.ownsRow k ty 5 sv n (flatR L vs)) : LpAt L w W1 W1 k C n sv ty 0 vs :=
 ⟨h1, h3, fun j r u _ h4 h5 => h2 j r u h4 h5, fun j r u h => by omega, G.refl _ _, bw, fun _ h => h⟩
section
variable {L : List Rec} {w wr W1 : World} {k C n i : Nat} {sv : Value} {ty : TypeId} {ss : List Value}
theorem LpAt.at_ (h : LpAt L w wr W1 k C n sv ty i ss) (hn : L.length = n) (hi : i < n) : ∃ r u, L[i]? = some r ∧ ss[i]? = some u ∧ ∀ g, sv.ownBlock = some g → wr.cell? ⟨g, i * 5 + 4, none⟩ = some u := by
 have hr : L[i]? = some L[i] := List.getElem?_eq_getElem (by omega)
 have hu : ss[i]? = some (ss[i]'(by have := h.len; omega)) := List.getElem?_eq_getElem _
 refine ⟨_, _, hr, hu, fun g hg => ?_⟩
 have hx := flatR_get L ss i 4 _ _ hr hu (by omega)
 have := h.row
 obtain ⟨o, c, rfl⟩ := ownsRow_form this
 cases o with
 | none => cases hg
 | some a =>
  obtain ⟨g', cap, e, _⟩ := this.form (by omega)
  simp only [Value.slice.injEq, Option.some.injEq, true_and] at e
  obtain ⟨rfl, rfl⟩ := e
  obtain rfl : g' = g := Option.some.inj hg
  rw [this.cellAt (i * 5 + 4) (by omega), hx]
  rfl
theorem LpAt.next {wl w2 : World} {r : Rec} {u : Value} {g cp m o9 c9} (h : LpAt L w wl W1 k C n (.slice (some ⟨g, 0, none⟩) n cp) ty i ss) (hnL : L.length = n) (hk : k ≤ wl.heap.size) (hr : L[i]? = some r) (hu : ss[i]? = some u) (hl : i < n) (q : B wl w2) (hown : w2.ownsRow wl.heap.size 37 6 (.slice o9 m c9) m (flat r.l)) (hm : r.l.length = m) (hty : ty ≠ 37) (hgC : ¬ g = C) (hw : w.heap.size ≤ k) :
  LpAt L w (w2.setCell ⟨g, i * 5 + 4, none⟩ (.slice o9 m c9)) W1 k C n (.slice (some ⟨g, 0, none⟩) n cp) ty (i + 1) (ss.set i (.slice o9 m c9)) := by
 have hrow2 := own_keepBx h.row q
 obtain ⟨h2, g2⟩ := hrow2.stored (i * 5 + 4) (.slice o9 m c9)
 rw [flatR_set L ss i _ h.len.symm (by omega)] at h2
 have hgk : k ≤ g := (h.row.lt g rfl).1
 have o1 : ∀ {e size n' : Nat} {v : Value} {xs : List Value} {b : Nat}, e ≠ ty → w2.ownsRow b e size v n' xs → (w2.setCell ⟨g, i * 5 + 4, none⟩ (.slice o9 m c9)).ownsRow b e size v n' xs := fun {e size n' v xs b} he hv => hv.kept g2 (rows_apart hv hrow2 he)
 refine ⟨by simp [h.len], h2, fun j r' u' hj hr' hu' => ?_, fun j r' u' hj hr' hu' => ?_, ?_, ?_, fun he hv => o1 he (own_keepBx (h.own he hv) q)⟩
 ·rw [List.getElem?_set_ne (by omega)] at hu'
  exact h.old j r' u' (by omega) hr' hu'
 ·by_cases hji : j = i
  ·subst hji
   rw [List.getElem?_set_self (by have := h.len; omega)] at hu'
   obtain rfl := Option.some.inj hu'
   obtain rfl : r = r' := Option.some.inj (hr.symm.trans hr')
   rw [hm]
   exact o1 (fun e => hty e.symm) (own_low hown hk)
  ·rw [List.getElem?_set_ne (fun e => hji e.symm)] at hu'
   exact o1 (fun e => hty e.symm) (own_keepBx (h.new j r' u' (by omega) hr' hu') q)
 ·exact (h.g.trans (q.g _)).setCell (p := ⟨g, i * 5 + 4, none⟩) (.inl ⟨hgk, hgC⟩) _
 ·exact (h.bw.trans q).setCell (p := ⟨g, i * 5 + 4, none⟩) (Nat.le_trans hw hgk) _
end
end Go.Proofs.YtglniapfnhedoaaGreatDoor
namespace Go.Proofs.YtglniapfnhedoaaGreatDoor
open Go.RowKit
set_option linter.unusedVariables false
structure SecsO (K : Nat) (w : World) (v : Value) (l : List Sec) : Prop where
 own : w.ownsRow K 37 6 v l.length (flat l)
 I : ∀ s ∈ l, s.I
section
variable {K K' : Nat} {w w' : World} {v : Value} {l : List Sec}
theorem SecsO.of (hI : ∀ s ∈ l, s.I) (h : w.ownsRow K 37 6 v l.length (flat l)) : SecsO K w v l := ⟨h, hI⟩
theorem SecsO.secs (h : SecsO K w v l) : IsSecs w v l := isSecs_own h.own h.I
theorem SecsO.keepB (h : SecsO K w v l) (q : B w w') : SecsO K w' v l := ⟨own_keepBx h.own q, h.I⟩
theorem SecsO.keep (h : SecsO K w v l) (q : Q w w') : SecsO K w' v l := h.keepB q.b
theorem SecsO.low (h : SecsO K w v l) (hk : K' ≤ K) : SecsO K' w v l := ⟨own_low h.own hk, h.I⟩
theorem SecsO.form (h : SecsO K w v l) : ∃ o n p, v = .slice o n p := by
 obtain ⟨o, c, rfl⟩ := ownsRow_form h.own
 exact ⟨_, _, _, rfl⟩
theorem secsO_keepOwn {S : Nat → Prop} (h : SecsO K w v l) (hS : ∀ b, v.ownBlock = some b → ¬ S b) (q : G S w w') : SecsO K w' v l := by
 refine ⟨⟨h.own.1, ?_⟩, h.I⟩
 rcases h.own.2 with hn | ⟨g, cap, cur, rfl, hb, hg, rest⟩
 ·exact .inl hn
 ·exact .inr ⟨g, cap, cur, rfl, hb, q.obj (hS g rfl) hg, rest⟩
theorem SecsO.type {e : TypeId} {C : Nat} {cs : Array Value} (h : SecsO K w v l) (ho : w.heap[C]? = some (.cells cs e (0, 0))) (he : e ≠ 37) (g : G (fun i => i = C) w w') : SecsO K w' v l := ⟨own_objG h.own ho he g, h.I⟩
end
def RecsO (K : Nat) (ty : TypeId) (w : World) (v : Value) (L : List Rec) (vs : List Value) : Prop :=
 w.ownsRow K ty 5 v L.length (flatR L vs) ∧ vs.length = L.length ∧ ∀ (i : Nat) r u, L[i]? = some r → vs[i]? = some u → SecsO K w u r.l
def SecsVO (k : Nat) (l : List Sec) : Value → World → Prop := fun v w => ∃ o n p, v = .slice o n p ∧ SecsO k w (.slice o n p) l ∧ ∀ b, (Value.slice o n p).ownBlock = some b → k ≤ b ∧ b < w.heap.size
theorem slot_secsO (k : Nat) (l : List Sec) : Slot.stays (SecsVO k l) := fun _ _ _ ⟨o, n, p, h1, h2, h3⟩ q => ⟨o, n, p, h1, h2.keepB q, fun b hb => ⟨(h3 b hb).1, Nat.lt_of_lt_of_le (h3 b hb).2 q.below.size⟩⟩
def RecVO (k : Nat) (r : Rec) : Value → World → Prop := fun v w => ∃ o n p, v = .agg #[.string r.n, .int .i64 r.x, .int .i64 r.y, .int .i64 r.z, .slice o n p] ∧ SecsO k w (.slice o n p) r.l ∧ ∀ b, (Value.slice o n p).ownBlock = some b → k ≤ b ∧ b < w.heap.size
theorem slot_recO (k : Nat) (r : Rec) : Slot.stays (RecVO k r) := fun _ _ _ ⟨o, n, p, h1, h2, h3⟩ q => ⟨o, n, p, h1, h2.keepB q, fun b hb => ⟨(h3 b hb).1, Nat.lt_of_lt_of_le (h3 b hb).2 q.below.size⟩⟩
def RecRowO (k : Nat) (r : Rec) : Value → World → Prop := fun v w => ∃ b o n p, v = .slice (some ⟨b, 0, none⟩) 1 1 ∧ (∀ j u, (r.cells (.slice o n p))[j]? = some u → w.cell? ⟨b, j, none⟩ = some u) ∧ SecsO k w (.slice o n p) r.l ∧ ∀ b, (Value.slice o n p).ownBlock = some b → k ≤ b ∧ b < w.heap.size
theorem slot_recrowO (k : Nat) (r : Rec) : Slot.stays (RecRowO k r) := fun _ _ _ ⟨b, o, n, p, h1, h2, h3, h4⟩ q => ⟨b, o, n, p, h1, fun j u hj => q.keep (h2 j u hj), h3.keepB q, fun b hb => ⟨(h4 b hb).1, Nat.lt_of_lt_of_le (h4 b hb).2 q.below.size⟩⟩
theorem own_lit {w : World} {base e size n H : Nat} {cs : Array Value} (hH : w.heap.size = H) (hb : base ≤ H) (hm : n ≤ maxLen) (hs : cs.size = n * size) :
  (w.alloc (.cells cs e)).ownsRow base e size (.slice (some ⟨H, 0, none⟩) n n) n cs.toList := by
 subst hH
 exact World.ownsRow_lit w cs n hb hm hs
set_option maxHeartbeats 4000000 in
theorem shape_own (k : Int) (h1 : 0 ≤ k) (h2 : k ≤ 255) (w : World) :
  Calls Tryz.prog 17 #[.int .u8 k] w fun e w' => ∃ v, e = .returned v ∧ SecsO w.heap.size w' v (shapeOf (k % 6).toNat) ∧ Q w w' ∧ ∀ g, v.ownBlock = some g → w.heap.size ≤ g := by
 obtain ⟨V, hp⟩ := shape_pick w (k % 6).toNat (by omega)
 have HP := Lib.hid hp
 have hm : (k % 6).toNat < 6 := by omega
 have HM := Lib.hid hm
 clear hm
 go_enter Tryz.func17, Tryz.ntmps17
 go_wp2
 go_ret
 refine ⟨V, rfl, ?_, ?_, shape_blocks w _ V HM.out HP.out⟩
 ·clear hp h1 h2
  have hp := HP.out
  have hm := HM.out
  clear HP HM
  generalize (k % 6).toNat = m at *
  match m, hm with
  | 0, _ =>
   obtain rfl : Value.slice (some ⟨w.heap.size, 0, none⟩) 1 1 = V := Option.some.inj hp
   refine SecsO.of (fitsB_I (by decide)) (ownsRow_keepB ?_ (((((((B.refl _).alloc _ _).alloc _ _).alloc _ _).alloc _ _).alloc _ _).alloc _ _))
   exact own_lit (n := 1) (by simp) (by omega) (by decide) rfl
  | 1, _ =>
   obtain rfl : Value.slice (some ⟨w.heap.size + 1, 0, none⟩) 2 2 = V := Option.some.inj hp
   refine SecsO.of (fitsB_I (by decide)) (ownsRow_keepB ?_ ((((((B.refl _).alloc _ _).alloc _ _).alloc _ _).alloc _ _).alloc _ _))
   exact own_lit (n := 2) (by simp) (by omega) (by decide) rfl
  | 2, _ =>
   obtain rfl : Value.slice (some ⟨w.heap.size + 1 + 1, 0, none⟩) 1 1 = V := Option.some.inj hp
   refine SecsO.of (fitsB_I (by decide)) (ownsRow_keepB ?_ (((((B.refl _).alloc _ _).alloc _ _).alloc _ _).alloc _ _))
   exact own_lit (n := 1) (by simp) (by omega) (by decide) rfl
  | 3, _ =>
   obtain rfl : Value.slice (some ⟨w.heap.size + 1 + 1 + 1, 0, none⟩) 2 2 = V := Option.some.inj hp
   refine SecsO.of (fitsB_I (by decide)) (ownsRow_keepB ?_ ((((B.refl _).alloc _ _).alloc _ _).alloc _ _))
   exact own_lit (n := 2) (by simp) (by omega) (by decide) rfl
  | 4, _ =>
   obtain rfl : Value.slice (some ⟨w.heap.size + 1 + 1 + 1 + 1, 0, none⟩) 1 1 = V := Option.some.inj hp
   refine SecsO.of (fitsB_I (by decide)) (ownsRow_keepB ?_ (((B.refl _).alloc _ _).alloc _ _))
   exact own_lit (n := 1) (by simp) (by omega) (by decide) rfl
  | 5, _ =>
   obtain rfl : Value.slice (some ⟨w.heap.size + 1 + 1 + 1 + 1 + 1, 0, none⟩) 3 3 = V := Option.some.inj hp
   refine SecsO.of (fitsB_I (by decide)) (ownsRow_keepB ?_ ((B.refl _).alloc _ _))
   exact own_lit (n := 3) (by simp) (by omega) (by decide) rfl
 ·exact (((((((Q.refl _).alloc _ _).alloc _ _).alloc _ _).alloc _ _).alloc _ _).alloc _ _).alloc _ _
set_option maxHeartbeats 4000000 in
theorem outer_own (k : Int) (h1 : 0 ≤ k) (h2 : k ≤ 255) (w : World) :
  Calls Tryz.prog 18 #[.int .u8 k] w fun e w' => ∃ v, e = .returned v ∧ SecsO w.heap.size w' v (outerOf (k % 3).toNat) ∧ Q w w' ∧ ∀ g, v.ownBlock = some g → w.heap.size ≤ g := by
 obtain ⟨V, hp⟩ := outer_pick w (k % 3).toNat (by omega)
 have HP := Lib.hid hp
 have hm : (k % 3).toNat < 3 := by omega
 have HM := Lib.hid hm
 clear hm
 go_enter Tryz.func18, Tryz.ntmps18
 go_wp2
 go_ret
 refine ⟨V, rfl, ?_, ?_, outer_blocks w _ V HM.out HP.out⟩
 ·clear hp h1 h2
  have hp := HP.out
  have hm := HM.out
  clear HP HM
  generalize (k % 3).toNat = m at *
  match m, hm with
  | 0, _ =>
   obtain rfl : Value.slice (some ⟨w.heap.size, 0, none⟩) 2 2 = V := Option.some.inj hp
   refine SecsO.of (fitsB_I (by decide)) (ownsRow_keepB ?_ ((((B.refl _).alloc _ _).alloc _ _).alloc _ _))
   exact own_lit (n := 2) (by simp) (by omega) (by decide) rfl
  | 1, _ =>
   obtain rfl : Value.slice (some ⟨w.heap.size + 1, 0, none⟩) 1 1 = V := Option.some.inj hp
   refine SecsO.of (fitsB_I (by decide)) (ownsRow_keepB ?_ (((B.refl _).alloc _ _).alloc _ _))
   exact own_lit (n := 1) (by simp) (by omega) (by decide) rfl
  | 2, _ =>
   obtain rfl : Value.slice (some ⟨w.heap.size + 1 + 1, 0, none⟩) 1 1 = V := Option.some.inj hp
   refine SecsO.of (fitsB_I (by decide)) (ownsRow_keepB ?_ ((B.refl _).alloc _ _))
   exact own_lit (n := 1) (by simp) (by omega) (by decide) rfl
 ·exact ((((Q.refl _).alloc _ _).alloc _ _).alloc _ _).alloc _ _
end Go.Proofs.YtglniapfnhedoaaGreatDoor
