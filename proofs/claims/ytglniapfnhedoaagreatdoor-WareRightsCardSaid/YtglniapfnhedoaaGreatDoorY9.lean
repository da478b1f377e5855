/-
 Contracts and what they rest on.
-/
import Derived.Laws.Strings2
import Derived.Laws.Slices
import Derived.KernelRfl
import Derived.Laws.OwnMore
import Derived.Test.YtglniapfnhedoaaGreatDoorY7
namespace Go.Proofs.YtglniapfnhedoaaGreatDoor
open Go.RowKit
set_option linter.unusedVariables false
structure DkP (d : Dk) : Prop where
 wn : ∀ r ∈ d.ws, r.n.size ≤ maxLen
 wi : ∀ r ∈ d.ws, I64 r.x ∧ I64 r.y
 tn : ∀ r ∈ d.ts, r.n.size ≤ maxLen
 fi : ∀ f ∈ d.fs, f.n.size ≤ maxLen ∧ I64 f.r ∧ I64 f.c
 few : d.fs.length ≤ 40
theorem indexW_has : ∀ (ws : List Wr) (K : Int) (n : ByteArray) (r c : Int), (indexW ws K n r c).isSome = true → ∃ w ∈ ws, w.n.toList = n.toList ∧ 0 ≤ r ∧ r < w.x ∧ 0 ≤ c ∧ c < w.y
 | [], _, _, _, _, h => by cases h
 | w :: ws, K, n, r, c, h => by
  rw [indexW] at h
  split at h
  ·rename_i hh
   split at h
   ·rename_i h2
    exact ⟨w, List.mem_cons_self .., by simpa using hh, h2⟩
   ·cases h
  ·obtain ⟨v, hv, e⟩ := indexW_has ws _ n r c h
   exact ⟨v, List.mem_cons_of_mem _ hv, e⟩
theorem apart_each {ok : Wr → Bool} {ws : List Wr} (h : apartW ok ws = true) : ∀ r ∈ ws, ok r = true := by
 intro r hr
 obtain ⟨i, hi⟩ := List.getElem?_of_mem hr
 have hl : i < ws.length := (List.getElem?_eq_some_iff.1 hi).1
 have h1 := List.all_eq_true.1 h i (List.mem_range.2 hl)
 rw [hi] at h1
 exact (Bool.and_eq_true_iff.1 h1).1
theorem fills_each {ws : List Wr} {fs : List Fl} (h : fillsOk ws fs = true) : ∀ f ∈ fs, hasW ws f.n f.r f.c = true := by
 intro f hf
 obtain ⟨i, hi⟩ := List.getElem?_of_mem hf
 have hl : i < fs.length := (List.getElem?_eq_some_iff.1 hi).1
 have h1 := List.all_eq_true.1 h i (List.mem_range.2 hl)
 rw [hi] at h1
 exact (Bool.and_eq_true_iff.1 (Bool.and_eq_true_iff.1 h1).1).1
theorem nameS_le {n : ByteArray} (h : nameS n = true) : n.size ≤ 16 := by
 unfold nameS at h
 exact of_decide_eq_true (Bool.and_eq_true_iff.1 (Bool.and_eq_true_iff.1 (Bool.and_eq_true_iff.1 h).1).1).2
theorem rightD_dkp {d : Dk} (h : rightD d = true) (few : d.fs.length ≤ 40) : DkP d := by
 unfold rightD at h
 simp only [Bool.and_eq_true, decide_eq_true_eq] at h
 obtain ⟨⟨⟨_, pW⟩, pT⟩, pF⟩ := h
 have hw : ∀ r ∈ d.ws, r.n.size ≤ 16 ∧ (1 ≤ r.x ∧ r.x ≤ 8) ∧ (1 ≤ r.y ∧ r.y ≤ 12) := fun r hr => by
  have := apart_each pW r hr
  unfold wareOk at this
  simp only [Bool.and_eq_true, inB, decide_eq_true_eq] at this
  exact ⟨nameS_le this.1.1.1.1, this.1.1.1.2, this.1.1.2⟩
 have ht : ∀ r ∈ d.ts, r.n.size ≤ 16 := fun r hr => by
  have := apart_each pT r hr
  unfold tipOk at this
  simp only [Bool.and_eq_true] at this
  exact nameS_le this.1.1.1.1
 refine ⟨fun r hr => ?_, fun r hr => ?_, fun r hr => ?_, fun f hf => ?_, few⟩
 ·have := (hw r hr).1; unfold maxLen; omega
 ·obtain ⟨_, h1, h2⟩ := hw r hr; unfold I64; omega
 ·have := ht r hr; unfold maxLen; omega
 ·obtain ⟨w, hm, he, h1, h2, h3, h4⟩ := indexW_has _ _ _ _ _ (fills_each pF f hf)
  obtain ⟨hn, hx, hy⟩ := hw w hm
  have e : w.n.size = f.n.size := by
   have := congrArg List.length he
   rw [Go.Lib.toList_data, Go.Lib.toList_data, Array.length_toList, Array.length_toList] at this
   exact this
  unfold maxLen I64
  omega
end Go.Proofs.YtglniapfnhedoaaGreatDoor
namespace Go.Proofs.YtglniapfnhedoaaGreatDoor
open Go.RowKit
set_option linter.unusedVariables false
theorem own_slice {w : World} {base : Nat} {e : TypeId} {size n : Nat} {v : Value} {xs : List Value} (h : w.ownsRow base e size v n xs) : ∃ so sc, v = .slice so n sc := by
 rcases h.2 with ⟨h0, h1⟩ | ⟨g, cap, cur, rfl, _⟩
 ·exact ⟨none, 0, by rw [h0, h1]⟩
 ·exact ⟨_, _, rfl⟩
theorem own_tnU {K : List (Option TypeId)} {b base : Nat} {w w' : World} {e : TypeId} {size n : Nat} {v : Value} {xs : List Value} (h : w.ownsRow base e size v n xs) (t : Tn K b w w') (hK : some e ∉ K) : w'.ownsRow base e size v n xs := by
 refine ⟨h.1, ?_⟩
 rcases h.2 with hn | ⟨g, cap, cur, rfl, hb, hg, rest⟩
 ·exact .inl hn
 ·exact .inr ⟨g, cap, cur, rfl, hb, t.objc hg hK, rest⟩
end Go.Proofs.YtglniapfnhedoaaGreatDoor
namespace Go.Proofs.YtglniapfnhedoaaGreatDoor
open Go.RowKit
set_option linter.unusedVariables false
theorem flatR_put : ∀ (L : List Rec) (vs : List Value) (i c : Nat) (r r' : Rec) (u x : Value), L.length = vs.length → L[i]? = some r → vs[i]? = some u → c < 5 → (r.cells u).set c x = r'.cells u → (flatR L vs).set (i * 5 + c) x = flatR (L.set i r') vs
 | [], _, i, c, r, r', u, x, _, h, _, _, _ => by simp at h
 | _ :: _, [], i, c, r, r', u, x, h, _, _, _, _ => by simp at h
 | t :: L, v :: vs, 0, c, r, r', u, x, h, h1, h2, hc, he => by
  simp only [List.getElem?_cons_zero, Option.some.injEq] at h1 h2
  subst h1 h2
  show (t.cells v ++ flatR L vs).set (0 * 5 + c) x = r'.cells v ++ flatR L vs
  rw [Nat.zero_mul, Nat.zero_add, List.set_append_left _ _ (by show c < 5; omega), he]
 | t :: L, v :: vs, i + 1, c, r, r', u, x, h, h1, h2, hc, he => by
  simp only [List.getElem?_cons_succ] at h1 h2
  show (t.cells v ++ flatR L vs).set ((i + 1) * 5 + c) x = t.cells v ++ flatR (L.set i r') vs
  rw [List.set_append_right _ _ (by show 5 ≤ _; omega), show (i + 1) * 5 + c - (t.cells v).length = i * 5 + c by show (i + 1) * 5 + c - 5 = _; omega, flatR_put L vs i c r r' u x (by simpa using h) h1 h2 hc he]
section
variable {w w' : World} {base : Nat} {wv tv fv : Value} {d : Dk} {ss tt : List Value}
theorem rowTn {e : TypeId} {size n g : Nat} {c : Nat} {o : Option Addr} {xs : List Value} (h : w.ownsRow base e size (.slice (some ⟨g, 0, none⟩) n c) n xs) (k : Nat) (x : Value) : Tn [some e] 0 w (w.setCell ⟨g, k, none⟩ x) := by
 obtain ⟨_, cs, ho⟩ := ownsRow_obj h (i := g) rfl
 exact Tn.set (p := ⟨g, k, none⟩) (Tn.refl _ _ _) ho (by simp) (Nat.zero_le _) _
theorem OwnD.putW {g n cp : Nat} (h : OwnD w base (.slice (some ⟨g, 0, none⟩) n cp) tv fv d ss tt) (hn : n = d.ws.length) {i c : Nat} {r r' : Rec} {u x : Value} (hr : d.ws[i]? = some r) (hu : ss[i]? = some u) (hc : c < 5) (he : (r.cells u).set c x = r'.cells u) (hl : r'.l = r.l) :
  OwnD (w.setCell ⟨g, i * 5 + c, none⟩ x) base (.slice (some ⟨g, 0, none⟩) n cp) tv fv ⟨d.ws.set i r', d.ts, d.fs⟩ ss tt := by
 subst hn
 have hw := (h.ws.stored (i * 5 + c) x).1
 rw [flatR_put d.ws ss i c r r' u x h.sl.symm hr hu hc he] at hw
 have t := rowTn (o := none) h.ws (i * 5 + c) x
 have hi : i < d.ws.length := (List.getElem?_eq_some_iff.1 hr).1
 refine ⟨by show World.ownsRow _ _ _ _ _ (d.ws.set i r').length _; rw [List.length_set]; exact hw, own_tnU h.ts t (by decide), own_tnU h.fs t (by decide), by show ss.length = (d.ws.set i r').length; rw [List.length_set]; exact h.sl, h.tl, fun j q v h1 h2 => ?_, fun j q v h1 h2 => own_tnU (h.th j q v h1 h2) t (by decide), fun q hq => ?_, h.ti⟩
 ·have h1' : (d.ws.set i r')[j]? = some q := h1
  by_cases hij : i = j
  ·subst hij
   rw [List.getElem?_set_self hi] at h1'
   cases h1'
   rw [hl]
   exact own_tnU (h.sh i r v hr h2) t (by decide)
  ·rw [List.getElem?_set_ne hij] at h1'
   exact own_tnU (h.sh j q v h1' h2) t (by decide)
 ·have hq' : q ∈ d.ws.set i r' := hq
  rcases List.mem_or_eq_of_mem_set hq' with hq' | rfl
  ·exact h.wi q hq'
  ·rw [hl]
   exact h.wi r (List.mem_of_getElem? hr)
theorem OwnD.putT {g n cp : Nat} (h : OwnD w base wv (.slice (some ⟨g, 0, none⟩) n cp) fv d ss tt) (hn : n = d.ts.length) {i c : Nat} {r r' : Rec} {u x : Value} (hr : d.ts[i]? = some r) (hu : tt[i]? = some u) (hc : c < 5) (he : (r.cells u).set c x = r'.cells u) (hl : r'.l = r.l) :
  OwnD (w.setCell ⟨g, i * 5 + c, none⟩ x) base wv (.slice (some ⟨g, 0, none⟩) n cp) fv ⟨d.ws, d.ts.set i r', d.fs⟩ ss tt := by
 subst hn
 have hw := (h.ts.stored (i * 5 + c) x).1
 rw [flatR_put d.ts tt i c r r' u x h.tl.symm hr hu hc he] at hw
 have t := rowTn (o := none) h.ts (i * 5 + c) x
 have hi : i < d.ts.length := (List.getElem?_eq_some_iff.1 hr).1
 refine ⟨own_tnU h.ws t (by decide), by show World.ownsRow _ _ _ _ _ (d.ts.set i r').length _; rw [List.length_set]; exact hw, own_tnU h.fs t (by decide), h.sl, by show tt.length = (d.ts.set i r').length; rw [List.length_set]; exact h.tl, fun j q v h1 h2 => own_tnU (h.sh j q v h1 h2) t (by decide), fun j q v h1 h2 => ?_, h.wi, fun q hq => ?_⟩
 ·have h1' : (d.ts.set i r')[j]? = some q := h1
  by_cases hij : i = j
  ·subst hij
   rw [List.getElem?_set_self hi] at h1'
   cases h1'
   rw [hl]
   exact own_tnU (h.th i r v hr h2) t (by decide)
  ·rw [List.getElem?_set_ne hij] at h1'
   exact own_tnU (h.th j q v h1' h2) t (by decide)
 ·have hq' : q ∈ d.ts.set i r' := hq
  rcases List.mem_or_eq_of_mem_set hq' with hq' | rfl
  ·exact h.ti q hq'
  ·rw [hl]
   exact h.ti r (List.mem_of_getElem? hr)
theorem OwnD.noOuter {g n cp : Nat} (h : OwnD w base wv (.slice (some ⟨g, 0, none⟩) n cp) fv d ss tt) (hn : n = d.ts.length) {i : Nat} {r : Rec} {u : Value} (hr : d.ts[i]? = some r) (hu : tt[i]? = some u) :
  OwnD (w.setCell ⟨g, i * 5 + 4, none⟩ (.slice none 0 0)) base wv (.slice (some ⟨g, 0, none⟩) n cp) fv ⟨d.ws, d.ts.set i { r with l := [] }, d.fs⟩ ss (tt.set i (.slice none 0 0)) := by
 subst hn
 have hi : i < d.ts.length := (List.getElem?_eq_some_iff.1 hr).1
 have hit : i < tt.length := (List.getElem?_eq_some_iff.1 hu).1
 have hw := (h.ts.stored (i * 5 + 4) (.slice none 0 0)).1
 rw [flatR_set d.ts tt i _ h.tl.symm hi] at hw
 have ef : flatR d.ts (tt.set i (.slice none 0 0)) = flatR (d.ts.set i { r with l := [] }) (tt.set i (.slice none 0 0)) := by
  have h1 := flatR_put d.ts (tt.set i (.slice none 0 0)) i 0 r { r with l := [] } (.slice none 0 0) (.string r.n) (by rw [List.length_set]; exact h.tl.symm) hr (by rw [List.getElem?_set_self hit]) (by omega) rfl
  have h2 := flatR_put d.ts (tt.set i (.slice none 0 0)) i 0 r r (.slice none 0 0) (.string r.n) (by rw [List.length_set]; exact h.tl.symm) hr (by rw [List.getElem?_set_self hit]) (by omega) rfl
  have h3 : d.ts.set i r = d.ts := by
   apply List.ext_getElem?
   intro j
   by_cases hij : i = j
   ·subst hij; rw [List.getElem?_set_self hi, hr]
   ·rw [List.getElem?_set_ne hij]
  rw [h3] at h2
  rw [← h1, h2]
 rw [ef] at hw
 have t := rowTn (o := none) h.ts (i * 5 + 4) (.slice none 0 0)
 refine ⟨own_tnU h.ws t (by decide), by show World.ownsRow _ _ _ _ _ (d.ts.set i { r with l := [] }).length _; rw [List.length_set]; exact hw, own_tnU h.fs t (by decide), h.sl, by show (tt.set i _).length = (d.ts.set i { r with l := [] }).length; rw [List.length_set, List.length_set]; exact h.tl, fun j q v h1 h2 => own_tnU (h.sh j q v h1 h2) t (by decide), fun j q v h1 h2 => ?_, h.wi, fun q hq => ?_⟩
 ·have h1' : (d.ts.set i { r with l := [] })[j]? = some q := h1
  by_cases hij : i = j
  ·subst hij
   rw [List.getElem?_set_self hi] at h1'
   rw [List.getElem?_set_self hit] at h2
   cases h1'
   cases h2
   exact World.ownsRow_nil _ _ _ _
  ·rw [List.getElem?_set_ne hij] at h1' h2
   exact own_tnU (h.th j q v h1' h2) t (by decide)
 ·have hq' : q ∈ d.ts.set i { r with l := [] } := hq
  rcases List.mem_or_eq_of_mem_set hq' with hq' | rfl
  ·exact h.ti q hq'
  ·exact fun s hs => by cases hs
def setH (l : List Sec) (x : Int) : List Sec := match l with
 | [] => []
 | s :: l => { s with h := x } :: l
theorem setH_len (l : List Sec) (x : Int) : (setH l x).length = l.length := by cases l <;> rfl
theorem flat_setH (l : List Sec) (x : Int) (hl : 0 < l.length) : (flat l).set 1 (.int .i64 x) = flat (setH l x) := by
 cases l with
 | nil => simp at hl
 | cons s l => rfl
def bendH (g : Nat) (x : Int) (r : Rec) (u : Value) : Rec := if u.ownBlock = some g then { r with l := setH r.l x } else r
theorem flatR_bend (g : Nat) (x : Int) : ∀ (L : List Rec) (vs : List Value), flatR (List.zipWith (bendH g x) L vs) vs = flatR L vs
 | [], vs => by cases vs <;> rfl
 | r :: L, [] => rfl
 | r :: L, u :: vs => by
  show (bendH g x r u).cells u ++ flatR (List.zipWith (bendH g x) L vs) vs = r.cells u ++ flatR L vs
  rw [flatR_bend g x L vs]
  unfold bendH
  split <;> rfl
theorem bend_len (g : Nat) (x : Int) {L : List Rec} {vs : List Value} (h : vs.length = L.length) : (List.zipWith (bendH g x) L vs).length = L.length := by
 rw [List.length_zipWith, h, Nat.min_self]
theorem bend_at {g : Nat} {x : Int} {L : List Rec} {vs : List Value} {i : Nat} {q : Rec} {u : Value} (h : (List.zipWith (bendH g x) L vs)[i]? = some q) (hu : vs[i]? = some u) : ∃ r, L[i]? = some r ∧ q = bendH g x r u := by
 rw [List.getElem?_zipWith, hu] at h
 cases hr : L[i]? with
 | none => rw [hr] at h; cases h
 | some r =>
  rw [hr] at h
  exact ⟨r, rfl, (Option.some.inj h).symm⟩
theorem bend_mem {g : Nat} {x : Int} {L : List Rec} {vs : List Value} {q : Rec} (h : q ∈ List.zipWith (bendH g x) L vs) : ∃ r u, r ∈ L ∧ q = bendH g x r u := by
 obtain ⟨i, hi⟩ := List.getElem?_of_mem h
 have hl : i < (List.zipWith (bendH g x) L vs).length := (List.getElem?_eq_some_iff.1 hi).1
 rw [List.length_zipWith] at hl
 obtain ⟨r, hr, hq⟩ := bend_at hi (List.getElem?_eq_getElem (show i < vs.length by omega))
 exact ⟨r, _, List.mem_of_getElem? hr, hq⟩
theorem bendH_n (g : Nat) (x : Int) (r : Rec) (u : Value) : (bendH g x r u).n = r.n ∧ (bendH g x r u).x = r.x ∧ (bendH g x r u).y = r.y ∧ (bendH g x r u).z = r.z := by
 unfold bendH
 split <;> exact ⟨rfl, rfl, rfl, rfl⟩
theorem bend_row {g : Nat} {x : Int} {r : Rec} {u : Value} {e : TypeId} (h : w.ownsRow base e 6 u r.l.length (flat r.l)) : (w.setCell ⟨g, 1, none⟩ (.int .i64 x)).ownsRow base e 6 u (bendH g x r u).l.length (flat (bendH g x r u).l) := by
 unfold bendH
 by_cases hb : u.ownBlock = some g
 ·rw [if_pos hb]
  show World.ownsRow _ _ _ _ _ (setH r.l x).length (flat (setH r.l x))
  rw [setH_len]
  rcases h.2 with ⟨rfl, h0⟩ | ⟨g', cap, cur, rfl, _, _, hnc, _⟩
  ·simp [Value.ownBlock] at hb
  ·obtain rfl : g' = g := by simpa [Value.ownBlock] using hb
   by_cases hl : 0 < r.l.length
   ·have h1 := (h.stored 1 (.int .i64 x)).1
    rw [flat_setH r.l x hl] at h1
    exact h1
   ·have hz : r.l = [] := List.length_eq_zero_iff.1 (by omega)
    rw [hz] at h ⊢
    exact (h.stored 1 (.int .i64 x)).1
 ·rw [if_neg hb]
  rcases h.2 with ⟨rfl, h0⟩ | ⟨g', cap, cur, rfl, hb', hg, rest⟩
  ·exact ⟨h.1, .inl ⟨rfl, h0⟩⟩
  ·have ne : g' ≠ g := fun e => hb (by rw [e]; rfl)
   exact ⟨h.1, .inr ⟨g', cap, cur, rfl, hb', (Below.heap_setCell w ⟨g, 1, none⟩ _ g' ne).trans hg, rest⟩⟩
theorem setH_I {l : List Sec} {x : Int} (hl : ∀ s ∈ l, s.I) (hx : I64 x) : ∀ s ∈ setH l x, s.I := by
 cases l with
 | nil => exact hl
 | cons t l =>
  intro s hs
  rcases List.mem_cons.1 hs with rfl | hs
  ·exact ⟨hx, (hl t (List.mem_cons_self ..)).2⟩
  ·exact hl s (List.mem_cons_of_mem _ hs)
theorem bendH_I {g : Nat} {x : Int} {r : Rec} {u : Value} (hr : ∀ s ∈ r.l, s.I) (hx : I64 x) : ∀ s ∈ (bendH g x r u).l, s.I := by
 unfold bendH
 split
 ·exact setH_I hr hx
 ·exact hr
theorem OwnD.bend {g n cp i : Nat} {r : Rec} {x : Int} (h : OwnD w base wv tv fv d ss tt) (hr : d.ws[i]? = some r) (hu : ss[i]? = some (.slice (some ⟨g, 0, none⟩) n cp)) (hx : I64 x) :
  OwnD (w.setCell ⟨g, 1, none⟩ (.int .i64 x)) base wv tv fv ⟨List.zipWith (bendH g x) d.ws ss, List.zipWith (bendH g x) d.ts tt, d.fs⟩ ss tt := by
 have hs := h.sh i r _ hr hu
 obtain rfl : n = r.l.length := by
  rcases hs.2 with ⟨e, _⟩ | ⟨_, _, _, e, _⟩
  ·cases e
  ·injection e
 have t := rowTn (o := none) hs 1 (.int .i64 x)
 have lw := bend_len g x h.sl
 have lt := bend_len g x h.tl
 refine ⟨?_, ?_, own_tnU h.fs t (by decide), h.sl.trans lw.symm, h.tl.trans lt.symm, fun j q v h1 h2 => ?_, fun j q v h1 h2 => ?_, fun q hq => ?_, fun q hq => ?_⟩
 ·show World.ownsRow _ _ _ _ _ (List.zipWith (bendH g x) d.ws ss).length (flatR (List.zipWith (bendH g x) d.ws ss) ss)
  rw [lw, flatR_bend]
  exact own_tnU h.ws t (by decide)
 ·show World.ownsRow _ _ _ _ _ (List.zipWith (bendH g x) d.ts tt).length (flatR (List.zipWith (bendH g x) d.ts tt) tt)
  rw [lt, flatR_bend]
  exact own_tnU h.ts t (by decide)
 ·obtain ⟨q', hq', rfl⟩ := bend_at (show (List.zipWith (bendH g x) d.ws ss)[j]? = some q from h1) h2
  exact bend_row (h.sh j q' v hq' h2)
 ·obtain ⟨q', hq', rfl⟩ := bend_at (show (List.zipWith (bendH g x) d.ts tt)[j]? = some q from h1) h2
  exact bend_row (h.th j q' v hq' h2)
 ·obtain ⟨q', u, hm, rfl⟩ := bend_mem (show q ∈ List.zipWith (bendH g x) d.ws ss from hq)
  exact bendH_I (h.wi q' hm) hx
 ·obtain ⟨q', u, hm, rfl⟩ := bend_mem (show q ∈ List.zipWith (bendH g x) d.ts tt from hq)
  exact bendH_I (h.ti q' hm) hx
end
end Go.Proofs.YtglniapfnhedoaaGreatDoor
namespace Go.Proofs.YtglniapfnhedoaaGreatDoor
open Go.RowKit
set_option linter.unusedVariables false
theorem DkP.setW {d : Dk} (h : DkP d) {i : Nat} {r : Rec} (h1 : r.n.size ≤ maxLen) (h2 : I64 r.x ∧ I64 r.y) : DkP ⟨d.ws.set i r, d.ts, d.fs⟩ :=
 ⟨fun q hq => (List.mem_or_eq_of_mem_set hq).elim (h.wn q) (fun e => e ▸ h1), fun q hq => (List.mem_or_eq_of_mem_set hq).elim (h.wi q) (fun e => e ▸ h2), h.tn, h.fi, h.few⟩
theorem DkP.setT {d : Dk} (h : DkP d) {i : Nat} {r : Rec} (h1 : r.n.size ≤ maxLen) : DkP ⟨d.ws, d.ts.set i r, d.fs⟩ :=
 ⟨h.wn, h.wi, fun q hq => (List.mem_or_eq_of_mem_set hq).elim (h.tn q) (fun e => e ▸ h1), h.fi, h.few⟩
theorem DkP.bend {d : Dk} (h : DkP d) (g : Nat) (x : Int) (ss tt : List Value) : DkP ⟨List.zipWith (bendH g x) d.ws ss, List.zipWith (bendH g x) d.ts tt, d.fs⟩ := by
 refine ⟨fun q hq => ?_, fun q hq => ?_, fun q hq => ?_, h.fi, h.few⟩
 ·obtain ⟨r, u, hm, rfl⟩ := bend_mem (show q ∈ List.zipWith (bendH g x) d.ws ss from hq)
  rw [(bendH_n g x r u).1]
  exact h.wn r hm
 ·obtain ⟨r, u, hm, rfl⟩ := bend_mem (show q ∈ List.zipWith (bendH g x) d.ws ss from hq)
  rw [(bendH_n g x r u).2.1, (bendH_n g x r u).2.2.1]
  exact h.wi r hm
 ·obtain ⟨r, u, hm, rfl⟩ := bend_mem (show q ∈ List.zipWith (bendH g x) d.ts tt from hq)
  rw [(bendH_n g x r u).1]
  exact h.tn r hm
theorem DkP.fill {d : Dk} (h : DkP d) {f : Fl} (h1 : f.n.size ≤ maxLen ∧ I64 f.r ∧ I64 f.c) (few : d.fs.length < 40) : DkP ⟨d.ws, d.ts, d.fs ++ [f]⟩ :=
 ⟨h.wn, h.wi, h.tn, fun q hq => (List.mem_append.1 hq).elim (h.fi q) (fun e => by rw [List.mem_singleton.1 e]; exact h1), by show (d.fs ++ [f]).length ≤ 40; rw [List.length_append]; simp only [List.length_cons, List.length_nil]; omega⟩
def BentAt (W : World) (Y : Nat) (w : World) : Prop := ∃ yw yt yf D, w.heap[Y]? = some (.cells #[yw, yt, yf] 26 (0, 0)) ∧ IsDk w yw yt yf D ∧ DkP D ∧ B W w
section
variable {W w : World} {Y : Nat} {wv tv fv : Value} {d : Dk} {ss tt : List Value}
theorem OwnD.bentAt (h : OwnD w W.heap.size wv tv fv d ss tt) (o : w.heap[Y]? = some (.cells #[wv, tv, fv] 26 (0, 0))) (p : DkP d) (q : B W w) : BentAt W Y w := ⟨wv, tv, fv, d, o, h.dk, p, q⟩
theorem OwnD.cellW {base g n cp i c : Nat} {r : Rec} {u : Value} (h : OwnD w base (.slice (some ⟨g, 0, none⟩) n cp) tv fv d ss tt) (hn : n = d.ws.length) (hr : d.ws[i]? = some r) (hu : ss[i]? = some u) (hc : c < 5) : w.cell? ⟨g, i * 5 + c, none⟩ = (r.cells u)[c]? ∧ w.frozen? ⟨g, i * 5 + c, none⟩ = false ∧ base ≤ g := by
 subst hn
 have hi : i < d.ws.length := (List.getElem?_eq_some_iff.1 hr).1
 refine ⟨by rw [h.ws.cellAt _ (by omega), flatR_get _ _ _ _ _ _ hr hu hc], h.ws.frozenAt _, ?_⟩
 rcases h.ws.2 with ⟨e, _⟩ | ⟨_, _, _, e, hb, _⟩
 ·cases e
 ·injection e with e1
  injection e1 with e2
  injection e2 with e3
  rw [e3]; exact hb
theorem OwnD.cellT {base g n cp i c : Nat} {r : Rec} {u : Value} (h : OwnD w base wv (.slice (some ⟨g, 0, none⟩) n cp) fv d ss tt) (hn : n = d.ts.length) (hr : d.ts[i]? = some r) (hu : tt[i]? = some u) (hc : c < 5) : w.cell? ⟨g, i * 5 + c, none⟩ = (r.cells u)[c]? ∧ w.frozen? ⟨g, i * 5 + c, none⟩ = false ∧ base ≤ g := by
 subst hn
 have hi : i < d.ts.length := (List.getElem?_eq_some_iff.1 hr).1
 refine ⟨by rw [h.ts.cellAt _ (by omega), flatR_get _ _ _ _ _ _ hr hu hc], h.ts.frozenAt _, ?_⟩
 rcases h.ts.2 with ⟨e, _⟩ | ⟨_, _, _, e, hb, _⟩
 ·cases e
 ·injection e with e1
  injection e1 with e2
  injection e2 with e3
  rw [e3]; exact hb
theorem bent_putW {g n cp i c : Nat} {r : Rec} {u : Value} (h : OwnD w W.heap.size (.slice (some ⟨g, 0, none⟩) n cp) tv fv d ss tt) (o : w.heap[Y]? = some (.cells #[.slice (some ⟨g, 0, none⟩) n cp, tv, fv] 26 (0, 0))) (p : DkP d) (q : B W w) (hn : n = d.ws.length) (hr : d.ws[i]? = some r) (hu : ss[i]? = some u) (r' : Rec) (x : Value) (hc : c < 5) (he : (r.cells u).set c x = r'.cells u) (hl : r'.l = r.l) (h1 : r'.n.size ≤ maxLen) (h2 : I64 r'.x ∧ I64 r'.y) : BentAt W Y (w.setCell ⟨g, i * 5 + c, none⟩ x) := by
 subst hn
 have t := rowTn (o := none) h.ws (i * 5 + c) x
 exact (h.putW rfl hr hu hc he hl).bentAt (t.objc o (by decide)) (p.setW h1 h2) (q.setCell (p := ⟨g, i * 5 + c, none⟩) (h.cellW rfl hr hu hc).2.2 x)
theorem bent_putT {g n cp i c : Nat} {r : Rec} {u : Value} (h : OwnD w W.heap.size wv (.slice (some ⟨g, 0, none⟩) n cp) fv d ss tt) (o : w.heap[Y]? = some (.cells #[wv, .slice (some ⟨g, 0, none⟩) n cp, fv] 26 (0, 0))) (p : DkP d) (q : B W w) (hn : n = d.ts.length) (hr : d.ts[i]? = some r) (hu : tt[i]? = some u) (r' : Rec) (x : Value) (hc : c < 5) (he : (r.cells u).set c x = r'.cells u) (hl : r'.l = r.l) (h1 : r'.n.size ≤ maxLen) : BentAt W Y (w.setCell ⟨g, i * 5 + c, none⟩ x) := by
 subst hn
 have t := rowTn (o := none) h.ts (i * 5 + c) x
 exact (h.putT rfl hr hu hc he hl).bentAt (t.objc o (by decide)) (p.setT h1) (q.setCell (p := ⟨g, i * 5 + c, none⟩) (h.cellT rfl hr hu hc).2.2 x)
theorem bent_noOuter {g n cp i : Nat} {r : Rec} {u : Value} (h : OwnD w W.heap.size wv (.slice (some ⟨g, 0, none⟩) n cp) fv d ss tt) (o : w.heap[Y]? = some (.cells #[wv, .slice (some ⟨g, 0, none⟩) n cp, fv] 26 (0, 0))) (p : DkP d) (q : B W w) (hn : n = d.ts.length) (hr : d.ts[i]? = some r) (hu : tt[i]? = some u) : BentAt W Y (w.setCell ⟨g, i * 5 + 4, none⟩ (.slice none 0 0)) := by
 subst hn
 have t := rowTn (o := none) h.ts (i * 5 + 4) (.slice none 0 0)
 exact (h.noOuter rfl hr hu).bentAt (t.objc o (by decide)) (p.setT (p.tn r (List.mem_of_getElem? hr))) (q.setCell (p := ⟨g, i * 5 + 4, none⟩) (h.cellT (c := 4) rfl hr hu (by omega)).2.2 _)
theorem bent_shape {g n cp i : Nat} {r : Rec} {x : Int} (h : OwnD w W.heap.size wv tv fv d ss tt) (o : w.heap[Y]? = some (.cells #[wv, tv, fv] 26 (0, 0))) (p : DkP d) (q : B W w) (hr : d.ws[i]? = some r) (hu : ss[i]? = some (.slice (some ⟨g, 0, none⟩) n cp)) (hx : I64 x) : BentAt W Y (w.setCell ⟨g, 1, none⟩ (.int .i64 x)) := by
 have hs := h.sh i r _ hr hu
 obtain rfl : n = r.l.length := by
  rcases hs.2 with ⟨e, _⟩ | ⟨_, _, _, e, _⟩
  ·cases e
  ·injection e
 have hb : W.heap.size ≤ g := by
  rcases hs.2 with ⟨e, _⟩ | ⟨_, _, _, e, hb, _⟩
  ·cases e
  ·injection e with e1
   injection e1 with e2
   injection e2 with e3
   rw [e3]; exact hb
 have t := rowTn (o := none) hs 1 (.int .i64 x)
 exact (h.bend hr hu hx).bentAt (t.objc o (by decide)) (p.bend g x ss tt) (q.setCell (p := ⟨g, 1, none⟩) hb _)
theorem OwnD.tn {base : Nat} {K : List (Option TypeId)} {w' : World} (h : OwnD w base wv tv fv d ss tt) (t : Tn K 0 w w') (k1 : some 33 ∉ K) (k2 : some 35 ∉ K) (k3 : some 37 ∉ K) (k4 : some 41 ∉ K) : OwnD w' base wv tv fv d ss tt :=
 ⟨own_tnU h.ws t k1, own_tnU h.ts t k2, own_tnU h.fs t k4, h.sl, h.tl, fun j q v h1 h2 => own_tnU (h.sh j q v h1 h2) t k3, fun j q v h1 h2 => own_tnU (h.th j q v h1 h2) t k3, h.wi, h.ti⟩
theorem OwnD.more {base : Nat} {w' : World} {new : Value} {f : Fl} (h : OwnD w base wv tv fv d ss tt) (t : Tn [some 41] 0 w w') (h2 : w'.ownsRow base 41 4 new (d.fs.length + 1) (flatF d.fs ++ f.cells)) : OwnD w' base wv tv new ⟨d.ws, d.ts, d.fs ++ [f]⟩ ss tt :=
 ⟨own_tnU h.ws t (by decide), own_tnU h.ts t (by decide), by show World.ownsRow _ _ _ _ _ (d.fs ++ [f]).length (flatF (d.fs ++ [f])); rw [flatF_snoc, List.length_append]; exact h2, h.sl, h.tl, fun j q v h1 h2 => own_tnU (h.sh j q v h1 h2) t (by decide), fun j q v h1 h2 => own_tnU (h.th j q v h1 h2) t (by decide), h.wi, h.ti⟩
theorem bent_more {w' : World} {new : Value} {f : Fl} (h : OwnD w W.heap.size wv tv fv d ss tt) (o : w.heap[Y]? = some (.cells #[wv, tv, fv] 26 (0, 0))) (hY : W.heap.size ≤ Y) (p : DkP d) (few : d.fs.length < 40) (hf : f.n.size ≤ maxLen ∧ I64 f.r ∧ I64 f.c) (t : Tn [some 41] 0 w w') (q : B W w') (h2 : w'.ownsRow W.heap.size 41 4 new (d.fs.length + 1) (flatF d.fs ++ f.cells)) : BentAt W Y (w'.setCell ⟨Y, 2, none⟩ new) := by
 have o2 := t.objc o (by decide)
 have t2 : Tn [some 26] 0 w' (w'.setCell ⟨Y, 2, none⟩ new) := Tn.set (p := ⟨Y, 2, none⟩) (Tn.refl _ _ _) o2 (by simp) (Nat.zero_le _) _
 have hm := (h.more t h2).tn t2 (by decide) (by decide) (by decide) (by decide)
 exact hm.bentAt (obj_set o2 2 new) (p.fill hf few) (q.setCell (p := ⟨Y, 2, none⟩) hY new)
end
end Go.Proofs.YtglniapfnhedoaaGreatDoor
namespace Go.Proofs.YtglniapfnhedoaaGreatDoor
open Go.RowKit
def partW (w : List UInt8) : Prop := w ≠ [] ∧ ∀ c ∈ w, partN c.toNat = true
def placeT : Nat → List (List UInt8) → List Wd
 | _, [] => []
 | p, w :: ws => (p, w) :: placeT (p + w.length + 1) ws
theorem placeT_texts : ∀ (p : Nat) (ws : List (List UInt8)), (placeT p ws).map Prod.snd = ws
 | _, [] => rfl
 | p, w :: ws => by show w :: (placeT _ ws).map Prod.snd = _; rw [placeT_texts]
theorem scan_app : ∀ (w rest : List UInt8) (p : Nat) (out : List (List Wd)) (line : List Wd) (v : List UInt8), (∀ c ∈ w, partN c.toNat = true) → scan (w ++ rest) p out line v false = scan rest (p + w.length) out line (v ++ w) false
 | [], rest, p, out, line, v, _ => by simp
 | c :: w, rest, p, out, line, v, h => by
  have hc := h c List.mem_cons_self
  show scan (c :: (w ++ rest)) p out line v false = _
  rw [scan, if_neg (part_cases hc).1, if_neg (by decide), if_pos hc, scan_app w rest (p + 1) out line (v ++ [c]) fun x hx => h x (List.mem_cons_of_mem _ hx)]
  rw [List.append_assoc, List.length_cons, Nat.add_assoc, Nat.add_comm 1]
  rfl
theorem scan_blank (rest : List UInt8) (q : Nat) (out : List (List Wd)) (line : List Wd) (v : List UInt8) : scan (32 :: rest) q out line v false = scan rest (q + 1) out (flushW line q v) [] false := by
 rw [scan, if_neg (by decide), if_neg (by decide), if_neg (by decide), if_neg (by decide), if_pos (by decide)]
theorem scan_lf (rest : List UInt8) (q : Nat) (out : List (List Wd)) (line : List Wd) (v : List UInt8) : scan (10 :: rest) q out line v false = scan rest (q + 1) (flushL out (flushW line q v)) [] [] false := by
 rw [scan, if_pos (by decide)]
theorem flush_at {line : List Wd} {p : Nat} {w : List UInt8} (h : w ≠ []) : flushW line (p + w.length) w = line ++ [(p, w)] := by
 unfold flushW
 rw [if_neg h, Nat.add_sub_cancel]
theorem scan_line : ∀ (ws : List (List UInt8)) (rest : List UInt8) (p : Nat) (out : List (List Wd)) (line : List Wd), ws ≠ [] → (∀ w ∈ ws, partW w) →
  scan (lineT ws ++ rest) p out line [] false = scan rest (p + (lineT ws).length) (out ++ [line ++ placeT p ws]) [] [] false
 | [], _, _, _, _, h, _ => absurd rfl h
 | [w], rest, p, out, line, _, h => by
  obtain ⟨h1, h2⟩ := h w List.mem_cons_self
  show scan (w ++ [10] ++ rest) p out line [] false = _
  rw [List.append_assoc, scan_app w _ p out line [] h2, List.nil_append]
  show scan (10 :: rest) _ _ _ _ _ = _
  rw [scan_lf, flush_at h1, flushL_some (by simp)]
  show scan rest (p + w.length + 1) _ _ _ _ = scan rest (p + (w ++ [10]).length) _ _ _ _
  rw [List.length_append, Nat.add_assoc]
  rfl
 | w :: x :: ws, rest, p, out, line, _, h => by
  obtain ⟨h1, h2⟩ := h w List.mem_cons_self
  show scan (w ++ 32 :: lineT (x :: ws) ++ rest) p out line [] false = _
  rw [List.append_assoc, scan_app w _ p out line [] h2, List.nil_append]
  show scan (32 :: (lineT (x :: ws) ++ rest)) _ _ _ _ _ = _
  rw [scan_blank, flush_at h1, scan_line (x :: ws) rest (p + w.length + 1) out (line ++ [(p, w)]) (by simp) fun y hy => h y (List.mem_cons_of_mem _ hy)]
  have e : p + w.length + 1 + (lineT (x :: ws)).length = p + (lineT (w :: x :: ws)).length := by
   show _ = p + (w ++ 32 :: lineT (x :: ws)).length
   rw [List.length_append, List.length_cons]
   omega
  rw [e, List.append_assoc]
  rfl
def placeL : Nat → List (List (List UInt8)) → List (List Wd)
 | _, [] => []
 | p, l :: L => placeT p l :: placeL (p + (lineT l).length) L
theorem scan_lines : ∀ (L : List (List (List UInt8))) (rest : List UInt8) (p : Nat) (out : List (List Wd)), (∀ l ∈ L, l ≠ [] ∧ ∀ w ∈ l, partW w) →
  scan (L.flatMap lineT ++ rest) p out [] [] false = scan rest (p + (L.flatMap lineT).length) (out ++ placeL p L) [] [] false
 | [], rest, p, out, _ => by simp [placeL]
 | l :: L, rest, p, out, h => by
  obtain ⟨h1, h2⟩ := h l List.mem_cons_self
  show scan (lineT l ++ L.flatMap lineT ++ rest) p out [] [] false = _
  rw [List.append_assoc, scan_line l _ p out [] h1 h2, scan_lines L rest _ _ fun x hx => h x (List.mem_cons_of_mem _ hx)]
  have e : p + (lineT l).length + (L.flatMap lineT).length = p + ((l :: L).flatMap lineT).length := by
   show _ = p + (lineT l ++ L.flatMap lineT).length
   rw [List.length_append]
   omega
  rw [e, List.nil_append, List.append_assoc]
  rfl
theorem lines_said {L : List (List (List UInt8))} (h : ∀ l ∈ L, l ≠ [] ∧ ∀ w ∈ l, partW w) (hl : (L.flatMap lineT).length ≤ 65536) : linesB (L.flatMap lineT) = (placeL 0 L, 0, 0) := by
 have := scan_lines L [] 0 [] h
 rw [List.append_nil, List.nil_append] at this
 unfold linesB
 rw [if_neg (by omega), this]
 rfl
theorem placeL_texts : ∀ (p : Nat) (L : List (List (List UInt8))), (placeL p L).map (List.map Prod.snd) = L
 | _, [] => rfl
 | p, l :: L => by show (placeT p l).map Prod.snd :: (placeL _ L).map _ = _; rw [placeT_texts, placeL_texts]
theorem placeL_append : ∀ (p : Nat) (L M : List (List (List UInt8))), placeL p (L ++ M) = placeL p L ++ placeL (p + (L.flatMap lineT).length) M
 | p, [], M => by simp [placeL]
 | p, l :: L, M => by
  show placeT p l :: placeL _ (L ++ M) = placeT p l :: (placeL _ L ++ _)
  rw [placeL_append]
  have e : p + (lineT l).length + (L.flatMap lineT).length = p + ((l :: L).flatMap lineT).length := by
   show _ = p + (lineT l ++ L.flatMap lineT).length
   rw [List.length_append]
   omega
  rw [e]
end Go.Proofs.YtglniapfnhedoaaGreatDoor
namespace Go.Proofs.YtglniapfnhedoaaGreatDoor
open Go.RowKit
def digG (t : Nat) (b : UInt8) : Nat := t * 10 + (b.toNat - 48)
theorem valTo_lst (l : List UInt8) : ∀ k, k ≤ l.length → valTo (strB l) k = (l.take k).foldl digG 0
 | 0, _ => by rw [List.take_zero]; rfl
 | k + 1, h => by
  have hg : l[k]? = some l[k] := List.getElem?_eq_getElem (by omega)
  have e : byteAt (strB l) k = (l[k]).toNat := by
   unfold byteAt strB
   rw [List.getD_eq_getElem?_getD]
   show (l[k]?.getD 0).toNat = _
   rw [hg]
   rfl
  rw [List.take_add_one, List.foldl_append, ← valTo_lst l k (by omega), hg]
  show valTo (strB l) k * 10 + (byteAt (strB l) k - 48) = _
  rw [e]
  rfl
theorem digit_vl {d : Nat} (h : d < 10) : (UInt8.ofNat (48 + d)).toNat = 48 + d := by
 rw [UInt8.toNat_ofNat']; omega
theorem dec_vl : ∀ (n u : Nat), u ≤ n → (Lib.decDigits u).foldl digG 0 = u
 | n, u, h => by
  rw [Lib.decDigits]
  by_cases c : u < 10
  ·rw [dif_pos c]
   simp only [digG, List.foldl_cons, List.foldl_nil, digit_vl c]
   omega
  ·rw [dif_neg c]
   match n with
   | 0 => omega
   | n + 1 =>
    have ih := dec_vl n (u / 10) (by omega)
    rw [List.foldl_append, ih]
    simp only [digG, List.foldl_cons, List.foldl_nil, digit_vl (show u % 10 < 10 by omega)]
    omega
theorem dec_dgs : ∀ (n u : Nat), u ≤ n → ∀ b ∈ Lib.decDigits u, 48 ≤ b.toNat ∧ b.toNat ≤ 57
 | n, u, h => by
  rw [Lib.decDigits]
  by_cases c : u < 10
  ·rw [dif_pos c]
   intro b hb
   rw [List.mem_singleton] at hb
   rw [hb, digit_vl c]
   omega
  ·rw [dif_neg c]
   match n with
   | 0 => omega
   | n + 1 =>
    have ih := dec_dgs n (u / 10) (by omega)
    intro b hb
    rw [List.mem_append, List.mem_singleton] at hb
    rcases hb with hb | hb
    ·exact ih b hb
    ·rw [hb, digit_vl (show u % 10 < 10 by omega)]
     omega
theorem dec_hd : ∀ (n u : Nat), u ≤ n → 0 < u → ∃ b l, Lib.decDigits u = b :: l ∧ b.toNat ≠ 48
 | n, u, h, h0 => by
  rw [Lib.decDigits]
  by_cases c : u < 10
  ·rw [dif_pos c]
   exact ⟨_, _, rfl, by rw [digit_vl c]; omega⟩
  ·rw [dif_neg c]
   match n with
   | 0 => omega
   | n + 1 =>
    obtain ⟨b, l, e, hb⟩ := dec_hd n (u / 10) (by omega) (by omega)
    rw [e]
    exact ⟨b, _, rfl, hb⟩
theorem dec_lng (n : Nat) : 1 ≤ (Lib.decDigits n).length := by
 rw [Lib.decDigits]
 split <;> simp
theorem byteAt_lst (l : List UInt8) (i : Nat) (b : UInt8) (h : l[i]? = some b) : byteAt (strB l) i = b.toNat := by
 unfold byteAt strB
 rw [List.getD_eq_getElem?_getD]
 show (l[i]?.getD 0).toNat = _
 rw [h]
 rfl
theorem digs_num {n : Nat} (h : n ≤ 1000000000000) : numOk (strB (Lib.decDigits n)) = true ∧ numV (strB (Lib.decDigits n)) = n := by
 have hv : valTo (strB (Lib.decDigits n)) (strB (Lib.decDigits n)).size = n := by rw [strB_size, valTo_lst _ _ (Nat.le_refl _), List.take_length, dec_vl n n (Nat.le_refl _)]
 have := num_yes (s := strB (Lib.decDigits n)) ⟨by rw [strB_size]; exact dec_lng n, fun ⟨h2, h48⟩ => by
   rcases Nat.eq_zero_or_pos n with h0 | h0
   ·rw [strB_size, h0, Lib.decDigits] at h2; simp at h2
   ·obtain ⟨b, l, e, hb⟩ := dec_hd n n (Nat.le_refl _) h0
    rw [byteAt_lst _ 0 b (by rw [e]; rfl)] at h48
    exact hb h48, fun i hi => by
   rw [strB_size] at hi
   rw [byteAt_lst _ i _ (List.getElem?_eq_getElem hi), digN_iff]
   exact dec_dgs n n (Nat.le_refl _) _ (List.getElem_mem hi), by rw [hv]; exact h⟩
 rw [hv] at this
 exact this
end Go.Proofs.YtglniapfnhedoaaGreatDoor
namespace Go.Proofs.YtglniapfnhedoaaGreatDoor
open Go.RowKit
theorem strB_list (n : ByteArray) : strB n.data.toList = n := rfl
theorem dec_ok {x : Int} (h0 : 0 ≤ x) (h1 : x ≤ 1000000000000) : numOk (strB (decI x)) = true ∧ ((numV (strB (decI x)) : Nat) : Int) = x := by
 obtain ⟨a, b⟩ := digs_num (n := x.toNat) (by omega)
 refine ⟨a, ?_⟩
 unfold decI
 rw [b]
 omega
theorem three_said {x y z : Int} {m0 m1 m2 : Nat} (p q r : Nat) (hx : 1 ≤ x ∧ x ≤ m0) (hy : 1 ≤ y ∧ y ≤ m1) (hz : 0 ≤ z ∧ z ≤ m2) (b0 : m0 ≤ 1000000000000) (b1 : m1 ≤ 1000000000000) (b2 : m2 ≤ 1000000000000) :
  ∃ X Y Z : Nat, threeW m0 m1 m2 (p, decI x) (q, decI y) (r, decI z) = .ok (X, Y, Z) ∧ (X : Int) = x ∧ (Y : Int) = y ∧ (Z : Int) = z := by
 obtain ⟨x1, x2⟩ := dec_ok (x := x) (by omega) (by omega)
 obtain ⟨y1, y2⟩ := dec_ok (x := y) (by omega) (by omega)
 obtain ⟨z1, z2⟩ := dec_ok (x := z) (by omega) (by omega)
 refine ⟨_, _, _, ?_, x2, y2, z2⟩
 unfold threeW
 rw [if_neg (by simp only [x1]; simp; omega), if_neg (by simp only [y1]; simp; omega), if_neg (by simp only [z1]; simp; omega)]
theorem rec_said {had : List Wr} {most m0 m1 m2 : Nat} (k : List UInt8) (w : Wr) (p : Nat) (hl : had.length < most) (hn : nameS w.n = true) (ha : namedW had w.n = false) (hx : 1 ≤ w.x ∧ w.x ≤ m0) (hy : 1 ≤ w.y ∧ w.y ≤ m1) (hz : 0 ≤ w.z ∧ w.z ≤ m2)
  (b0 : m0 ≤ 1000000000000) (b1 : m1 ≤ 1000000000000) (b2 : m2 ≤ 1000000000000) :
  recW had most m0 m1 m2 (placeT p [k, w.n.data.toList, decI w.x, decI w.y, decI w.z]) = .ok { w with l := [] } := by
 simp only [placeT]
 rw [recW, if_neg (by omega), if_neg (show ¬ (nameS (strB w.n.data.toList) = false ∨ namedW had (strB w.n.data.toList) = true) from by rw [strB_list, hn, ha]; simp)]
 obtain ⟨X, Y, Z, e, x1, y1, z1⟩ := three_said (p + k.length + 1 + w.n.data.toList.length + 1) (p + k.length + 1 + w.n.data.toList.length + 1 + (decI w.x).length + 1) (p + k.length + 1 + w.n.data.toList.length + 1 + (decI w.x).length + 1 + (decI w.y).length + 1) hx hy hz b0 b1 b2
 rw [e]
 simp only
 rw [x1, y1, z1, strB_list]
theorem nums_said : ∀ (xs : List Int) (p : Nat), (∀ x ∈ xs, 0 ≤ x ∧ x ≤ 1000000000000) → ∃ ns : List Nat, numsW (placeT p (xs.map decI)) = .ok ns ∧ ns.map (fun n => ((n : Nat) : Int)) = xs
 | [], _, _ => ⟨[], rfl, rfl⟩
 | x :: xs, p, h => by
  obtain ⟨h0, h1⟩ := h x List.mem_cons_self
  obtain ⟨a, b⟩ := dec_ok h0 h1
  obtain ⟨ns, e, f⟩ := nums_said xs (p + (decI x).length + 1) fun y hy => h y (List.mem_cons_of_mem _ hy)
  refine ⟨numV (strB (decI x)) :: ns, ?_, ?_⟩
  ·show numsW ((p, decI x) :: placeT _ (xs.map decI)) = _
   rw [numsW, a, e]
   rfl
  ·rw [List.map_cons, f, b]
theorem sec_said (s : Sec) (p : Nat) (h : secOk s = true) : secW (placeT p (secL s)) = .ok s := by
 obtain ⟨h1, h2, h3, h4, h5, h6, h7, h8, h9, h10, h11⟩ := secOk_all h
 obtain ⟨r, hh, a0, b0, a1, b1⟩ := s
 simp only at h1 h2 h3 h4 h5 h6 h7 h8 h9 h10 h11
 cases r
 ·obtain ⟨ns, e, f⟩ := nums_said [hh, a0, b0, a1, b1] (p + kBox.length + 1) (fun x hx => by simp at hx; rcases hx with rfl | rfl | rfl | rfl | rfl <;> omega)
  show secW ((p, kBox) :: placeT (p + kBox.length + 1) ([hh, a0, b0, a1, b1].map decI)) = _
  have hl : (placeT (p + kBox.length + 1) ([hh, a0, b0, a1, b1].map decI)).length = 5 := rfl
  rw [secW, if_pos (show ((p, kBox) : Wd).2 = kBox from rfl), if_neg (by rw [hl]; decide), e]
  match ns, f with
  | [n0, n1, n2, n3, n4], f =>
   simp only [List.map_cons, List.map_nil, List.cons.injEq, and_true] at f
   obtain ⟨f0, f1, f2, f3, f4⟩ := f
   simp only
   rw [f0, f1, f2, f3, f4]
 ·obtain ⟨rfl, rfl⟩ := h11 rfl
  obtain ⟨ns, e, f⟩ := nums_said [hh, a0, a1] (p + kRound.length + 1) (fun x hx => by simp at hx; rcases hx with rfl | rfl | rfl <;> omega)
  show secW ((p, kRound) :: placeT (p + kRound.length + 1) ([hh, a0, a1].map decI)) = _
  have hl : (placeT (p + kRound.length + 1) ([hh, a0, a1].map decI)).length = 3 := rfl
  rw [secW, if_neg (show ¬ ((p, kRound) : Wd).2 = kBox from by show ¬ kRound = kBox; decide), if_neg (by rw [hl]; decide), e]
  match ns, f with
  | [n0, n1, n2], f =>
   simp only [List.map_cons, List.map_nil, List.cons.injEq, and_true] at f
   obtain ⟨f0, f1, f2⟩ := f
   simp only
   rw [f0, f1, f2]
def addS (d : Dk) (o : Nat) (l : List Sec) : Dk := l.foldl (fun d s => d.add o s) d
theorem secs_said : ∀ (l : List Sec) (p : Nat) (L : List (List Wd)) (d : Dk) (o f : Nat), o ≠ 0 → (∀ s ∈ l, secOk s = true) → parseD (placeL p (l.map secL) ++ L) d o f = parseD L (addS d o l) o f
 | [], _, _, _, _, _, _, _ => rfl
 | s :: l, p, L, d, o, f, ho, h => by
  have hs := sec_said s p (h s List.mem_cons_self)
  have ih := fun p d => secs_said l p L d o f ho fun x hx => h x (List.mem_cons_of_mem _ hx)
  show parseD (placeT p (secL s) :: (placeL _ (l.map secL) ++ L)) d o f = _
  have hk : ∃ k x, placeT p (secL s) = k :: x ∧ (k.2 = kRound ∨ k.2 = kBox) := by
   unfold secL
   split
   ·exact ⟨_, _, rfl, .inl rfl⟩
   ·exact ⟨_, _, rfl, .inr rfl⟩
  obtain ⟨k, x, e, hk⟩ := hk
  rw [e] at hs ⊢
  rw [parseD, if_pos hk, if_neg ho, hs]
  exact ih _ _
theorem moreW_last : ∀ (ws : List Wr) (w : Wr) (s : Sec), moreW (ws ++ [w]) s = ws ++ [moreR w s]
 | [], _, _ => rfl
 | [x], w, s => rfl
 | x :: y :: ws, w, s => by
  show x :: moreW (y :: (ws ++ [w])) s = x :: (y :: ws ++ [moreR w s])
  rw [show y :: (ws ++ [w]) = y :: ws ++ [w] from rfl, moreW_last (y :: ws) w s]
theorem lastL_last : ∀ (ws : List Wr) (w : Wr), lastL (ws ++ [w]) = w.l
 | [], _ => rfl
 | [x], w => rfl
 | x :: y :: ws, w => by
  show lastL (y :: (ws ++ [w])) = _
  exact lastL_last (y :: ws) w
theorem addS_ware : ∀ (l : List Sec) (d : Dk) (ws : List Wr) (w : Wr), d.ws = ws ++ [w] → addS d 1 l = { d with ws := ws ++ [{ w with l := w.l ++ l }] }
 | [], d, ws, w, h => by
  show d = _
  obtain ⟨a, b, c⟩ := d
  simp only at h
  subst h
  simp
 | s :: l, d, ws, w, h => by
  show addS (d.add 1 s) 1 l = _
  have e : (d.add 1 s).ws = ws ++ [moreR w s] := by show moreW d.ws s = _; rw [h, moreW_last]
  rw [addS_ware l (d.add 1 s) ws (moreR w s) e]
  show ({ ws := ws ++ [{ (moreR w s) with l := (w.l ++ [s]) ++ l }], ts := d.ts, fs := d.fs } : Dk) = _
  rw [List.append_assoc]
  rfl
theorem addS_tip : ∀ (l : List Sec) (d : Dk) (ts : List Wr) (w : Wr), d.ts = ts ++ [w] → addS d 2 l = { d with ts := ts ++ [{ w with l := w.l ++ l }] }
 | [], d, ts, w, h => by
  show d = _
  obtain ⟨a, b, c⟩ := d
  simp only at h
  subst h
  simp
 | s :: l, d, ts, w, h => by
  show addS (d.add 2 s) 2 l = _
  have e : (d.add 2 s).ts = ts ++ [moreR w s] := by show moreW d.ts s = _; rw [h, moreW_last]
  rw [addS_tip l (d.add 2 s) ts (moreR w s) e]
  show ({ ws := d.ws, ts := ts ++ [{ (moreR w s) with l := (w.l ++ [s]) ++ l }], fs := d.fs } : Dk) = _
  rw [List.append_assoc]
  rfl
theorem ware_said (w : Wr) (p : Nat) (L : List (List Wd)) (d : Dk) (o f : Nat) (hw : wareOk w = true) (hl : d.ws.length < 8) (ha : namedW d.ws w.n = false) (ho : wholeD d o = true) :
  parseD (placeL p (recL kWare w) ++ L) d o f = parseD L { d with ws := d.ws ++ [w] } 1 p ∧ wholeD { d with ws := d.ws ++ [w] } 1 = true := by
 unfold wareOk at hw
 simp only [Bool.and_eq_true, inB_iff] at hw
 obtain ⟨⟨⟨⟨h1, h2⟩, h3⟩, h4⟩, h5⟩ := hw
 obtain ⟨_, _, hsec⟩ := right_all h5
 constructor
 ·show parseD (placeT p [kWare, w.n.data.toList, decI w.x, decI w.y, decI w.z] :: (placeL _ (w.l.map secL) ++ L)) d o f = _
  have hr := rec_said (had := d.ws) (most := 8) (m0 := 8) (m1 := 12) (m2 := 1000000) kWare w p hl h1 ha h2 h3 h4 (by decide) (by decide) (by decide)
  generalize hx : placeT p [kWare, w.n.data.toList, decI w.x, decI w.y, decI w.z] = X at hr ⊢
  have hk : ∃ x, X = (p, kWare) :: x := ⟨_, hx.symm⟩
  obtain ⟨x, rfl⟩ := hk
  rw [parseD, if_neg (show ¬ (kWare = kRound ∨ kWare = kBox) by decide), ho, if_neg (by decide), if_pos rfl, hr]
  show parseD (placeL _ (w.l.map secL) ++ L) { d with ws := d.ws ++ [{ w with l := [] }] } 1 p = _
  rw [secs_said w.l _ L _ 1 p (by decide) hsec, addS_ware w.l _ d.ws { w with l := [] } rfl]
  simp
 ·unfold wholeD
  rw [if_pos rfl]
  show rightS (lastL (d.ws ++ [w])) = true
  rw [lastL_last, h5]
theorem tip_said (w : Wr) (p : Nat) (L : List (List Wd)) (d : Dk) (o f : Nat) (hw : tipOk w = true) (hl : d.ts.length < 4) (ha : namedW d.ts w.n = false) (ho : wholeD d o = true) :
  parseD (placeL p (recL kTip w) ++ L) d o f = parseD L { d with ts := d.ts ++ [w] } 2 p ∧ wholeD { d with ts := d.ts ++ [w] } 2 = true := by
 unfold tipOk at hw
 simp only [Bool.and_eq_true, inB_iff] at hw
 obtain ⟨⟨⟨⟨h1, h5⟩, h2⟩, h3⟩, h4⟩ := hw
 obtain ⟨_, _, hsec⟩ := right_all h5
 constructor
 ·show parseD (placeT p [kTip, w.n.data.toList, decI w.x, decI w.y, decI w.z] :: (placeL _ (w.l.map secL) ++ L)) d o f = _
  have hr := rec_said (had := d.ts) (most := 4) (m0 := 20000000) (m1 := 60000) (m2 := 10000) kTip w p hl h1 ha h2 h3 h4 (by decide) (by decide) (by decide)
  generalize hx : placeT p [kTip, w.n.data.toList, decI w.x, decI w.y, decI w.z] = X at hr ⊢
  have hk : ∃ x, X = (p, kTip) :: x := ⟨_, hx.symm⟩
  obtain ⟨x, rfl⟩ := hk
  rw [parseD, if_neg (show ¬ (kTip = kRound ∨ kTip = kBox) by decide), ho, if_neg (by decide), if_neg (show ¬ kTip = kWare by decide), if_pos rfl, hr]
  show parseD (placeL _ (w.l.map secL) ++ L) { d with ts := d.ts ++ [{ w with l := [] }] } 2 p = _
  rw [secs_said w.l _ L _ 2 p (by decide) hsec, addS_tip w.l _ d.ts { w with l := [] } rfl]
  simp
 ·unfold wholeD
  rw [if_neg (by decide), if_pos rfl]
  show rightS (lastL (d.ts ++ [w])) = true
  rw [lastL_last, h5]
end Go.Proofs.YtglniapfnhedoaaGreatDoor
namespace Go.Proofs.YtglniapfnhedoaaGreatDoor
open Go.RowKit
def dotAt (l : List UInt8) : Nat := (l.takeWhile fun c => decide (c.toNat ≠ 46)).length
theorem dot_le (l : List UInt8) : dotAt l ≤ l.length := by
 unfold dotAt
 exact (List.takeWhile_sublist _).length_le
theorem dot_is (l : List UInt8) : ∀ k, (∀ j c, j < k → l[j]? = some c → c.toNat ≠ 46) → k ≤ l.length → (l.length ≤ k ∨ ∃ c, l[k]? = some c ∧ c.toNat = 46) → dotAt l = k := by
 induction l with
 | nil => intro k _ hk _; simp at hk; subst hk; rfl
 | cons x l ih =>
  intro k h hk he
  unfold dotAt
  match k with
  | 0 =>
   rcases he with he | ⟨c, hc, h46⟩
   ·simp at he
   ·simp at hc; subst hc
    rw [List.takeWhile_cons, if_neg (by simp [h46])]
    rfl
  | k + 1 =>
   have hx := h 0 x (by omega) rfl
   rw [List.takeWhile_cons, if_pos (by simp [hx])]
   have := ih k (fun j c hj hc => h (j + 1) c (by omega) (by simpa using hc)) (by simpa using hk) (by
    rcases he with he | ⟨c, hc, h46⟩
    ·exact .inl (by simpa using he)
    ·exact .inr ⟨c, by simpa using hc, h46⟩)
   unfold dotAt at this
   rw [List.length_cons, this]
theorem take_dot (l : List UInt8) : l.takeWhile (fun c => decide (c.toNat ≠ 46)) = l.take (dotAt l) := by
 unfold dotAt
 exact (List.takeWhile_eq_take_findIdx_not ..) |>.trans (by
  congr 1
  rw [List.takeWhile_eq_take_findIdx_not, List.length_take]
  have := List.findIdx_le_length (p := fun c : UInt8 => !decide (c.toNat ≠ 46)) (xs := l)
  omega)
theorem strB_sub (l : List UInt8) (a b : Nat) : (strB l).extract a b = strB ((l.drop a).take (b - a)) := by
 apply ByteArray.ext
 apply Array.ext'
 rw [Go.Lib.extract_data]
 rfl
theorem well_long {l : List UInt8} {k : Nat} {r : UInt8} (hk : dotAt l = k) (hr : l[k + 1]? = some r) : wellL l = if nameS (strB (l.take k)) = true ∧ 65 ≤ r.toNat ∧ r.toNat ≤ 72 ∧ numOk (strB (l.drop (k + 2))) = true ∧ 1 ≤ numV (strB (l.drop (k + 2))) ∧ numV (strB (l.drop (k + 2))) ≤ 12 then some (l.take k, r.toNat - 65, numV (strB (l.drop (k + 2))) - 1) else none := by
 unfold wellL
 simp only
 rw [take_dot, List.length_take, Nat.min_eq_left (dot_le l), hk]
 have e : l.drop (k + 1) = r :: l.drop (k + 2) := by
  obtain ⟨h, rfl⟩ := List.getElem?_eq_some_iff.1 hr
  rw [List.drop_eq_getElem_cons h]
 rw [e]
end Go.Proofs.YtglniapfnhedoaaGreatDoor
namespace Go.Proofs.YtglniapfnhedoaaGreatDoor
open Go.RowKit
def ApartW (ok : Wr → Bool) (ws : List Wr) : Prop := ∀ i w, ws[i]? = some w → ok w = true ∧ namedW (ws.take i) w.n = false
theorem apartW_iff {ok : Wr → Bool} {ws : List Wr} : apartW ok ws = true ↔ ApartW ok ws := by
 unfold apartW ApartW
 rw [List.all_eq_true]
 constructor
 ·intro h i w hw
  have := h i (List.mem_range.2 (List.getElem?_eq_some_iff.1 hw).1)
  rw [hw] at this
  simpa using this
 ·intro h i hi
  have hi' := List.mem_range.1 hi
  have hw : ws[i]? = some ws[i] := List.getElem?_eq_getElem hi'
  rw [hw]
  have := h i _ hw
  simpa using this
theorem wares_said : ∀ (ws : List Wr) (p : Nat) (L : List (List Wd)) (d : Dk) (o f : Nat), ApartW wareOk (d.ws ++ ws) → (d.ws ++ ws).length ≤ 8 → wholeD d o = true →
  ∃ o' f', parseD (placeL p (ws.flatMap (recL kWare)) ++ L) d o f = parseD L { d with ws := d.ws ++ ws } o' f' ∧ wholeD { d with ws := d.ws ++ ws } o' = true
 | [], p, L, d, o, f, _, _, ho => ⟨o, f, by simp [placeL], by simpa using ho⟩
 | w :: ws, p, L, d, o, f, ha, hl, ho => by
  have hw := ha d.ws.length w (by rw [List.getElem?_append_right (Nat.le_refl _)]; simp)
  rw [List.take_left] at hw
  have hll : d.ws.length < 8 := by rw [List.length_append, List.length_cons] at hl; omega
  show ∃ o' f', parseD (placeL p (recL kWare w ++ ws.flatMap (recL kWare)) ++ L) d o f = _ ∧ _
  rw [placeL_append, List.append_assoc]
  obtain ⟨e1, e2⟩ := ware_said w p (placeL (p + ((recL kWare w).flatMap lineT).length) (ws.flatMap (recL kWare)) ++ L) d o f hw.1 hll hw.2 ho
  rw [e1]
  have e3 : d.ws ++ [w] ++ ws = d.ws ++ w :: ws := by simp
  obtain ⟨o', f', e4, e5⟩ := wares_said ws (p + ((recL kWare w).flatMap lineT).length) L { d with ws := d.ws ++ [w] } 1 p (by rw [e3]; exact ha) (by rw [e3]; exact hl) e2
  simp only [e3] at e4 e5
  exact ⟨o', f', e4, e5⟩
theorem tips_said : ∀ (ws : List Wr) (p : Nat) (L : List (List Wd)) (d : Dk) (o f : Nat), ApartW tipOk (d.ts ++ ws) → (d.ts ++ ws).length ≤ 4 → wholeD d o = true →
  ∃ o' f', parseD (placeL p (ws.flatMap (recL kTip)) ++ L) d o f = parseD L { d with ts := d.ts ++ ws } o' f' ∧ wholeD { d with ts := d.ts ++ ws } o' = true
 | [], p, L, d, o, f, _, _, ho => ⟨o, f, by simp [placeL], by simpa using ho⟩
 | w :: ws, p, L, d, o, f, ha, hl, ho => by
  have hw := ha d.ts.length w (by rw [List.getElem?_append_right (Nat.le_refl _)]; simp)
  rw [List.take_left] at hw
  have hll : d.ts.length < 4 := by rw [List.length_append, List.length_cons] at hl; omega
  show ∃ o' f', parseD (placeL p (recL kTip w ++ ws.flatMap (recL kTip)) ++ L) d o f = _ ∧ _
  rw [placeL_append, List.append_assoc]
  obtain ⟨e1, e2⟩ := tip_said w p (placeL (p + ((recL kTip w).flatMap lineT).length) (ws.flatMap (recL kTip)) ++ L) d o f hw.1 hll hw.2 ho
  rw [e1]
  have e3 : d.ts ++ [w] ++ ws = d.ts ++ w :: ws := by simp
  obtain ⟨o', f', e4, e5⟩ := tips_said ws (p + ((recL kTip w).flatMap lineT).length) L { d with ts := d.ts ++ [w] } 2 p (by rw [e3]; exact ha) (by rw [e3]; exact hl) e2
  simp only [e3] at e4 e5
  exact ⟨o', f', e4, e5⟩
theorem has_ware : ∀ (ws : List Wr) (k : Int) (n : ByteArray) (r c : Int), (indexW ws k n r c).isSome = true → ∃ w ∈ ws, w.n = n ∧ 0 ≤ r ∧ r < w.x ∧ 0 ≤ c ∧ c < w.y
 | [], _, _, _, _, h => by cases h
 | w :: ws, k, n, r, c, h => by
  unfold indexW at h
  cases hn : (w.n.toList == n.toList)
  ·rw [hn, if_neg (by decide)] at h
   obtain ⟨x, hx, h2⟩ := has_ware ws _ n r c h
   exact ⟨x, List.mem_cons_of_mem _ hx, h2⟩
  ·rw [hn, if_pos rfl] at h
   have e : w.n = n := by
    have := beq_iff_eq.1 hn
    rw [toList_data, toList_data] at this
    apply ByteArray.ext
    exact Array.ext' this
   split at h
   ·rename_i hh
    exact ⟨w, List.mem_cons_self, e, hh⟩
   ·cases h
theorem name_byte {n : ByteArray} (h : nameS n = true) : ∀ c ∈ n.data.toList, c.toNat ≠ 46 ∧ partN c.toNat = true := by
 intro c hc
 unfold nameS at h
 simp only [Bool.and_eq_true, List.all_eq_true, List.mem_range] at h
 obtain ⟨i, hi⟩ := List.getElem?_of_mem hc
 have hlt := (List.getElem?_eq_some_iff.1 hi).1
 have := h.2 i hlt
 rw [show byteAt n i = c.toNat from byteAt_lst n.data.toList i c hi] at this
 constructor
 ·intro e
  rw [e] at this
  exact absurd this (by decide)
 ·unfold partN
  rcases Bool.or_eq_true_iff.1 this with h1 | h1 <;> rw [h1] <;> simp
theorem well_said {n : ByteArray} {r c : Int} (hn : nameS n = true) (hr : 0 ≤ r ∧ r < 8) (hc : 0 ≤ c ∧ c < 12) : wellL (wellT n r c) = some (n.data.toList, r.toNat, c.toNat) := by
 have hw : wellT n r c = n.data.toList ++ (46 :: UInt8.ofNat (65 + r.toNat) :: decI (c + 1)) := by
  unfold wellT
  rw [if_pos ⟨hn, hr.1, hr.2, hc.1, hc.2⟩]
  simp
 have hdot : dotAt (wellT n r c) = n.data.toList.length := by
  refine dot_is _ _ (fun j x hj hx => ?_) (by rw [hw]; simp) (.inr ⟨46, ?_, rfl⟩)
  ·rw [hw, List.getElem?_append_left hj] at hx
   exact (name_byte hn x (List.mem_of_getElem? hx)).1
  ·rw [hw, List.getElem?_append_right (Nat.le_refl _)]
   simp
 have hg : (wellT n r c)[n.data.toList.length + 1]? = some (UInt8.ofNat (65 + r.toNat)) := by
  rw [hw, List.getElem?_append_right (by omega)]
  simp
 rw [well_long hdot hg]
 have e1 : (wellT n r c).take n.data.toList.length = n.data.toList := by rw [hw, List.take_left]
 have e2 : (wellT n r c).drop (n.data.toList.length + 2) = decI (c + 1) := by
  rw [hw, List.drop_append]
  simp
 have e3 : (UInt8.ofNat (65 + r.toNat)).toNat = 65 + r.toNat := by rw [UInt8.toNat_ofNat']; omega
 obtain ⟨d1, d2⟩ := dec_ok (x := c + 1) (by omega) (by omega)
 rw [e1, e2, e3, if_pos ⟨hn, by omega, by omega, d1, by omega, by omega⟩]
 congr 2
 congr 1
 ·omega
 ·omega
theorem fill_said {d : Dk} (f : Fl) (p : Nat) (hr : ∀ w ∈ d.ws, wareOk w = true) (hh : hasW d.ws f.n f.r f.c = true) (hv : 0 ≤ f.v ∧ f.v ≤ 20000000) (hf : filledW d.fs f.n f.r f.c = false) : fillW d (placeT p (fillL f)) = .ok f := by
 obtain ⟨w, hw, en, h1, h2, h3, h4⟩ := has_ware d.ws 0 f.n f.r f.c hh
 have hok := hr w hw
 unfold wareOk at hok
 simp only [Bool.and_eq_true, inB_iff] at hok
 obtain ⟨⟨⟨⟨g1, g2⟩, g3⟩, _⟩, _⟩ := hok
 rw [en] at g1
 have hwl := well_said (n := f.n) (r := f.r) (c := f.c) g1 ⟨h1, by omega⟩ ⟨h3, by omega⟩
 obtain ⟨d1, d2⟩ := dec_ok (x := f.v) hv.1 (by omega)
 have er : ((f.r.toNat : Nat) : Int) = f.r := by omega
 have ec : ((f.c.toNat : Nat) : Int) = f.c := by omega
 show fillW d [(p, kFill), (p + kFill.length + 1, wellT f.n f.r f.c), (p + kFill.length + 1 + (wellT f.n f.r f.c).length + 1, decI f.v)] = _
 unfold fillW
 simp only
 rw [hwl]
 simp only
 rw [er, ec, strB_list, hh, hf, d1, if_neg (by simp), if_neg (by simp; omega), d2]
theorem fills_said : ∀ (fs : List Fl) (p : Nat) (L : List (List Wd)) (d : Dk) (o f : Nat), (∀ w ∈ d.ws, wareOk w = true) → (∀ i x, (d.fs ++ fs)[i]? = some x → hasW d.ws x.n x.r x.c = true ∧ (0 ≤ x.v ∧ x.v ≤ 20000000) ∧ filledW ((d.fs ++ fs).take i) x.n x.r x.c = false) → wholeD d o = true →
  ∃ o' f', parseD (placeL p (fs.map fillL) ++ L) d o f = parseD L { d with fs := d.fs ++ fs } o' f' ∧ wholeD { d with fs := d.fs ++ fs } o' = true
 | [], p, L, d, o, f, _, _, ho => ⟨o, f, by simp [placeL], by simpa using ho⟩
 | x :: fs, p, L, d, o, f, hr, ha, ho => by
  obtain ⟨h1, h2, h3⟩ := ha d.fs.length x (by rw [List.getElem?_append_right (Nat.le_refl _)]; simp)
  rw [List.take_left] at h3
  have hx := fill_said x p hr h1 h2 h3
  show ∃ o' f', parseD (placeT p (fillL x) :: (placeL _ (fs.map fillL) ++ L)) d o f = _ ∧ _
  have hk : ∃ y, placeT p (fillL x) = (p, kFill) :: y := ⟨_, rfl⟩
  obtain ⟨y, ey⟩ := hk
  rw [ey] at hx ⊢
  rw [parseD, if_neg (show ¬ (kFill = kRound ∨ kFill = kBox) by decide), ho, if_neg (by decide), if_neg (show ¬ kFill = kWare by decide), if_neg (show ¬ kFill = kTip by decide), if_pos rfl, hx]
  have e3 : d.fs ++ [x] ++ fs = d.fs ++ x :: fs := by simp
  obtain ⟨o', f', e4, e5⟩ := fills_said fs (p + (lineT (fillL x)).length) L { d with fs := d.fs ++ [x] } 0 p hr (by rw [e3]; exact ha) rfl
  simp only [e3] at e4 e5
  exact ⟨o', f', e4, e5⟩
def BehindT (L : List (List Wd)) : Prop := L = [] ∨ ∃ k x M, L = (k :: x) :: M ∧ k.2 ≠ kRound ∧ k.2 ≠ kBox ∧ k.2 ≠ kWare ∧ k.2 ≠ kTip ∧ k.2 ≠ kFill
theorem behind_end {L : List (List Wd)} {d : Dk} {o f : Nat} (h : BehindT L) (ho : wholeD d o = true) : parseD L d o f = (d, L, 0, 0) := by
 rcases h with rfl | ⟨k, x, M, rfl, h1, h2, h3, h4, h5⟩
 ·rw [parseD, if_pos ho]
 ·rw [parseD, if_neg (by rintro (h | h); exact h1 h; exact h2 h), ho, if_neg (by decide), if_neg h3, if_neg h4, if_neg h5]
theorem deck_said {d : Dk} (h : rightD d = true) (p : Nat) {L : List (List Wd)} (hL : BehindT L) : parseD (placeL p (deckL d) ++ L) dk0 0 0 = (d, L, 0, 0) := by
 unfold rightD at h
 simp only [Bool.and_eq_true, decide_eq_true_eq] at h
 obtain ⟨⟨⟨⟨h1, h2⟩, h3⟩, h4⟩, h5⟩ := h
 rw [apartW_iff] at h3 h4
 unfold deckL
 rw [placeL_append, placeL_append, List.append_assoc, List.append_assoc]
 obtain ⟨o1, f1, e1, w1⟩ := wares_said d.ws p (placeL (p + ((d.ws.flatMap (recL kWare)).flatMap lineT).length) (d.ts.flatMap (recL kTip)) ++ (placeL (p + ((d.ws.flatMap (recL kWare) ++ d.ts.flatMap (recL kTip)).flatMap lineT).length) (d.fs.map fillL) ++ L)) dk0 0 0 (by simpa [dk0] using h3) (by simpa [dk0] using h1) rfl
 rw [e1]
 obtain ⟨o2, f2, e2, w2⟩ := tips_said d.ts (p + ((d.ws.flatMap (recL kWare)).flatMap lineT).length) (placeL (p + ((d.ws.flatMap (recL kWare) ++ d.ts.flatMap (recL kTip)).flatMap lineT).length) (d.fs.map fillL) ++ L) { dk0 with ws := dk0.ws ++ d.ws } o1 f1 (by simpa [dk0] using h4) (by simpa [dk0] using h2) w1
 rw [e2]
 have hwr : ∀ w ∈ d.ws, wareOk w = true := fun w hw => by
  obtain ⟨i, hi⟩ := List.getElem?_of_mem hw
  exact (h3 i w hi).1
 have hfs : ∀ i x, d.fs[i]? = some x → hasW d.ws x.n x.r x.c = true ∧ (0 ≤ x.v ∧ x.v ≤ 20000000) ∧ filledW (d.fs.take i) x.n x.r x.c = false := fun i x hx => by
  unfold fillsOk at h5
  rw [List.all_eq_true] at h5
  have := h5 i (List.mem_range.2 (List.getElem?_eq_some_iff.1 hx).1)
  rw [hx] at this
  simp only [Bool.and_eq_true, inB_iff, Bool.not_eq_true'] at this
  exact ⟨this.1.1, this.1.2, this.2⟩
 obtain ⟨o3, f3, e3, w3⟩ := fills_said d.fs (p + ((d.ws.flatMap (recL kWare) ++ d.ts.flatMap (recL kTip)).flatMap lineT).length) L { dk0 with ws := dk0.ws ++ d.ws, ts := dk0.ts ++ d.ts } o2 f2 (by simpa [dk0] using hwr) (by simpa [dk0] using hfs) w2
 have e : ({ dk0 with ws := dk0.ws ++ d.ws, ts := dk0.ts ++ d.ts, fs := dk0.fs ++ d.fs } : Dk) = d := by simp [dk0]
 refine e3.trans ?_
 have w3' := w3
 rw [show ({ ({ dk0 with ws := dk0.ws ++ d.ws, ts := dk0.ts ++ d.ts } : Dk) with fs := ({ dk0 with ws := dk0.ws ++ d.ws, ts := dk0.ts ++ d.ts } : Dk).fs ++ d.fs } : Dk) = d from e] at w3' ⊢
 exact behind_end hL w3'
end Go.Proofs.YtglniapfnhedoaaGreatDoor
