/-
 Contracts and what they rest on.
-/
import Derived.Test.YtglniapfnhedoaaGreatDoorY28
namespace Go.Proofs.YtglniapfnhedoaaGreatDoor
open Go.RowKit Go.ChangeShapes Go.WideShapes Go.ChangeAt Go.Deep
set_option linter.unusedVariables false
instance : Inhabited Rec := ⟨⟨⟨#[]⟩, 0, 0, 0, []⟩⟩
instance : Inhabited Fl := ⟨⟨⟨#[]⟩, 0, 0, 0⟩⟩
theorem i64_of_wf {a : Int} (w : (Lit.int .i64 a).wf = true) : I64 a := by
 simp [Lit.wf, IntKind.min, IntKind.max, IntKind.signed, IntKind.bits] at w
 unfold I64
 omega
def Rec.ok (r : Rec) : Prop := r.n.size ≤ maxLen ∧ I64 r.x ∧ I64 r.y ∧ I64 r.z
def Fl.ok (f : Fl) : Prop := f.n.size ≤ maxLen ∧ I64 f.r ∧ I64 f.c ∧ I64 f.v
theorem add_zero' (p : Addr) : p.add 0 = p := by unfold Addr.add; simp
theorem add_pos' (p : Addr) {j : Nat} (h : 0 < j) : p.add j = ⟨p.block, p.off + j, none⟩ := by unfold Addr.add; rw [if_neg (by omega)]
set_option maxRecDepth 100000 in
theorem ware_open {H : Type} {enc : TypeId × Value → H} {W : World} {base : Nat} {sp : Nat → Bool} {held : Bool} {fuel : Nat} {cs : List Value} {x : DataW H × List MemPlace}
  (h : DataW.trod enc Tryz.prog W base sp held fuel 33 cs = some x) : ∃ (r : Rec) (vo : Value), r.ok ∧ IsSecs W vo r.l ∧ cs = r.cells vo := by
 obtain ⟨xs, n, _, _, hl, hlen, hf⟩ := DataW.trod_struct Tryz.underlying33 h
 rw [show Tryz.prog.cellsOf 33 = 5 by kernel_rfl] at hl
 have c9 : Tryz.prog.cellsOf 9 = 1 := by kernel_rfl
 have c1 : Tryz.prog.cellsOf 3 = 1 := by kernel_rfl
 have c2 : Tryz.prog.cellsOf 3 = 1 := by kernel_rfl
 have c3 : Tryz.prog.cellsOf 2 = 1 := by kernel_rfl
 have cS : Tryz.prog.cellsOf 31 = 1 := by kernel_rfl
 match xs, hlen, cs, hl with
 | [x0, x1, x2, x3, x4], _, [v0, v1, v2, v3, v4], _ =>
  have f0 : DataW.trod enc Tryz.prog W base sp held n 9 (([v0, v1, v2, v3, v4].drop 0).take (Tryz.prog.cellsOf 9)) = some x0 := hf 0 _ rfl
  have f1 : DataW.trod enc Tryz.prog W base sp held n 3 (([v0, v1, v2, v3, v4].drop 1).take (Tryz.prog.cellsOf 3)) = some x1 := hf 1 _ rfl
  have f2 : DataW.trod enc Tryz.prog W base sp held n 3 (([v0, v1, v2, v3, v4].drop 2).take (Tryz.prog.cellsOf 3)) = some x2 := hf 2 _ rfl
  have f3 : DataW.trod enc Tryz.prog W base sp held n 2 (([v0, v1, v2, v3, v4].drop 3).take (Tryz.prog.cellsOf 2)) = some x3 := hf 3 _ rfl
  have f4 : DataW.trod enc Tryz.prog W base sp held n 31 (([v0, v1, v2, v3, v4].drop 4).take (Tryz.prog.cellsOf 31)) = some x4 := hf 4 _ rfl
  rw [c9] at f0
  rw [c1] at f1
  rw [c2] at f2
  rw [c3] at f3
  rw [cS] at f4
  obtain ⟨s, e0, _, z0⟩ := DataW.trod_string Tryz.underlying9 f0
  obtain ⟨a1, e1, _, w1⟩ := DataW.trod_int Tryz.underlying3 f1
  obtain ⟨a2, e2, _, w2⟩ := DataW.trod_int Tryz.underlying3 f2
  obtain ⟨a3, e3, _, w3⟩ := DataW.trod_int Tryz.underlying2 f3
  obtain ⟨l, e4⟩ := secs_trod f4
  simp at e0 e1 e2 e3
  subst e0 e1 e2 e3
  exact ⟨⟨s, a1, a2, a3, l⟩, _, ⟨z0, i64_of_wf w1, i64_of_wf w2, i64_of_wf w3⟩, e4, rfl⟩
theorem wares_trod {H : Type} {enc : TypeId × Value → H} {W : World} {base : Nat} {sp : Nat → Bool} {held : Bool} {fuel : Nat} {v : Value} {x : DataW H × List MemPlace}
  (h : DataW.trod enc Tryz.prog W base sp held fuel 22 [v] = some x) : ∃ L : List Rec, IsRecs W v L ∧ ∀ r ∈ L, r.ok := by
 rcases open_slice Tryz.underlying22 h with ⟨hcs, _⟩ | ⟨a, ln, cp, m, n, D, Pl, hcs, _, hl, hm, hmm, _, hx⟩
 ·simp at hcs
  subst hcs
  exact ⟨[], .inl ⟨rfl, rfl⟩, by simp⟩
 ·simp at hcs
  subst hcs
  rw [show Tryz.prog.cellsOf 33 = 5 by kernel_rfl] at hx
  have hle : ln ≤ m := by rw [hmm]; split <;> omega
  obtain ⟨S, hS⟩ := choose_lt (α := Rec) (n := ln) (p := fun i r => r.ok ∧ RecAt W (a.add (i * 5)) r) (fun i hi => by
   obtain ⟨cs', h1, h2⟩ := hx i (by omega)
   obtain ⟨r, vo, hI, hs, rfl⟩ := ware_open h2
   obtain ⟨_, _, h3⟩ := World.cells?_some h1
   generalize a.add (i * 5) = q at *
   have g0 := h3 0 (by omega)
   have g1 := h3 1 (by omega)
   have g2 := h3 2 (by omega)
   have g3 := h3 3 (by omega)
   have g4 := h3 4 (by omega)
   rw [add_zero'] at g0
   rw [add_pos' _ (by omega)] at g1 g2 g3 g4
   exact ⟨r, hI, g0, g1, g2, g3, vo, g4, hs⟩)
  refine ⟨(List.range ln).map S, .inr ⟨a, cp, by simp, by simpa using hl, hm, fun i s hs => ?_⟩, fun r hr => ?_⟩
  ·have hi : i < ln := by
    have := (List.getElem?_eq_some_iff.1 hs).1
    simpa using this
   have e : s = S i := by
    rw [List.getElem?_map, List.getElem?_range hi] at hs
    simpa using hs.symm
   subst e
   exact (hS i hi).2
  ·obtain ⟨i, hi, rfl⟩ := List.mem_map.1 hr
   exact (hS i (List.mem_range.1 hi)).1
set_option maxRecDepth 100000 in
theorem tipr_open {H : Type} {enc : TypeId × Value → H} {W : World} {base : Nat} {sp : Nat → Bool} {held : Bool} {fuel : Nat} {cs : List Value} {x : DataW H × List MemPlace}
  (h : DataW.trod enc Tryz.prog W base sp held fuel 35 cs = some x) : ∃ (r : Rec) (vo : Value), r.ok ∧ IsSecs W vo r.l ∧ cs = r.cells vo := by
 obtain ⟨xs, n, _, _, hl, hlen, hf⟩ := DataW.trod_struct Tryz.underlying35 h
 rw [show Tryz.prog.cellsOf 35 = 5 by kernel_rfl] at hl
 have c9 : Tryz.prog.cellsOf 9 = 1 := by kernel_rfl
 have c1 : Tryz.prog.cellsOf 2 = 1 := by kernel_rfl
 have c2 : Tryz.prog.cellsOf 2 = 1 := by kernel_rfl
 have c3 : Tryz.prog.cellsOf 2 = 1 := by kernel_rfl
 have cS : Tryz.prog.cellsOf 31 = 1 := by kernel_rfl
 match xs, hlen, cs, hl with
 | [x0, x1, x2, x3, x4], _, [v0, v1, v2, v3, v4], _ =>
  have f0 : DataW.trod enc Tryz.prog W base sp held n 9 (([v0, v1, v2, v3, v4].drop 0).take (Tryz.prog.cellsOf 9)) = some x0 := hf 0 _ rfl
  have f1 : DataW.trod enc Tryz.prog W base sp held n 2 (([v0, v1, v2, v3, v4].drop 1).take (Tryz.prog.cellsOf 2)) = some x1 := hf 1 _ rfl
  have f2 : DataW.trod enc Tryz.prog W base sp held n 2 (([v0, v1, v2, v3, v4].drop 2).take (Tryz.prog.cellsOf 2)) = some x2 := hf 2 _ rfl
  have f3 : DataW.trod enc Tryz.prog W base sp held n 2 (([v0, v1, v2, v3, v4].drop 3).take (Tryz.prog.cellsOf 2)) = some x3 := hf 3 _ rfl
  have f4 : DataW.trod enc Tryz.prog W base sp held n 31 (([v0, v1, v2, v3, v4].drop 4).take (Tryz.prog.cellsOf 31)) = some x4 := hf 4 _ rfl
  rw [c9] at f0
  rw [c1] at f1
  rw [c2] at f2
  rw [c3] at f3
  rw [cS] at f4
  obtain ⟨s, e0, _, z0⟩ := DataW.trod_string Tryz.underlying9 f0
  obtain ⟨a1, e1, _, w1⟩ := DataW.trod_int Tryz.underlying2 f1
  obtain ⟨a2, e2, _, w2⟩ := DataW.trod_int Tryz.underlying2 f2
  obtain ⟨a3, e3, _, w3⟩ := DataW.trod_int Tryz.underlying2 f3
  obtain ⟨l, e4⟩ := secs_trod f4
  simp at e0 e1 e2 e3
  subst e0 e1 e2 e3
  exact ⟨⟨s, a1, a2, a3, l⟩, _, ⟨z0, i64_of_wf w1, i64_of_wf w2, i64_of_wf w3⟩, e4, rfl⟩
theorem tiprs_trod {H : Type} {enc : TypeId × Value → H} {W : World} {base : Nat} {sp : Nat → Bool} {held : Bool} {fuel : Nat} {v : Value} {x : DataW H × List MemPlace}
  (h : DataW.trod enc Tryz.prog W base sp held fuel 23 [v] = some x) : ∃ L : List Rec, IsRecs W v L ∧ ∀ r ∈ L, r.ok := by
 rcases open_slice Tryz.underlying23 h with ⟨hcs, _⟩ | ⟨a, ln, cp, m, n, D, Pl, hcs, _, hl, hm, hmm, _, hx⟩
 ·simp at hcs
  subst hcs
  exact ⟨[], .inl ⟨rfl, rfl⟩, by simp⟩
 ·simp at hcs
  subst hcs
  rw [show Tryz.prog.cellsOf 35 = 5 by kernel_rfl] at hx
  have hle : ln ≤ m := by rw [hmm]; split <;> omega
  obtain ⟨S, hS⟩ := choose_lt (α := Rec) (n := ln) (p := fun i r => r.ok ∧ RecAt W (a.add (i * 5)) r) (fun i hi => by
   obtain ⟨cs', h1, h2⟩ := hx i (by omega)
   obtain ⟨r, vo, hI, hs, rfl⟩ := tipr_open h2
   obtain ⟨_, _, h3⟩ := World.cells?_some h1
   generalize a.add (i * 5) = q at *
   have g0 := h3 0 (by omega)
   have g1 := h3 1 (by omega)
   have g2 := h3 2 (by omega)
   have g3 := h3 3 (by omega)
   have g4 := h3 4 (by omega)
   rw [add_zero'] at g0
   rw [add_pos' _ (by omega)] at g1 g2 g3 g4
   exact ⟨r, hI, g0, g1, g2, g3, vo, g4, hs⟩)
  refine ⟨(List.range ln).map S, .inr ⟨a, cp, by simp, by simpa using hl, hm, fun i s hs => ?_⟩, fun r hr => ?_⟩
  ·have hi : i < ln := by
    have := (List.getElem?_eq_some_iff.1 hs).1
    simpa using this
   have e : s = S i := by
    rw [List.getElem?_map, List.getElem?_range hi] at hs
    simpa using hs.symm
   subst e
   exact (hS i hi).2
  ·obtain ⟨i, hi, rfl⟩ := List.mem_map.1 hr
   exact (hS i (List.mem_range.1 hi)).1
set_option maxRecDepth 100000 in
theorem fill_open {H : Type} {enc : TypeId × Value → H} {W : World} {base : Nat} {sp : Nat → Bool} {held : Bool} {fuel : Nat} {cs : List Value} {x : DataW H × List MemPlace}
  (h : DataW.trod enc Tryz.prog W base sp held fuel 41 cs = some x) : ∃ f : Fl, f.ok ∧ cs = [.string f.n, .int .i64 f.r, .int .i64 f.c, .int .i64 f.v] := by
 obtain ⟨xs, n, _, _, hl, hlen, hf⟩ := DataW.trod_struct Tryz.underlying41 h
 rw [show Tryz.prog.cellsOf 41 = 4 by kernel_rfl] at hl
 have cW : Tryz.prog.cellsOf 39 = 3 := by kernel_rfl
 have c9 : Tryz.prog.cellsOf 9 = 1 := by kernel_rfl
 have c1 : Tryz.prog.cellsOf 3 = 1 := by kernel_rfl
 have c6 : Tryz.prog.cellsOf 2 = 1 := by kernel_rfl
 match xs, hlen, cs, hl with
 | [x0, x1], _, [v0, v1, v2, v3], _ =>
  have f0 : DataW.trod enc Tryz.prog W base sp held n 39 (([v0, v1, v2, v3].drop 0).take (Tryz.prog.cellsOf 39)) = some x0 := hf 0 _ rfl
  have f1 : DataW.trod enc Tryz.prog W base sp held n 2 (([v0, v1, v2, v3].drop 3).take (Tryz.prog.cellsOf 2)) = some x1 := hf 1 _ rfl
  rw [cW] at f0
  rw [c6] at f1
  obtain ⟨ys, k, _, _, hl2, hlen2, hf2⟩ := DataW.trod_struct Tryz.underlying39 f0
  match ys, hlen2 with
  | [y0, y1, y2], _ =>
   have g0 : DataW.trod enc Tryz.prog W base sp held k 9 ((([v0, v1, v2, v3].drop 0).take 3 |>.drop 0).take (Tryz.prog.cellsOf 9)) = some y0 := hf2 0 _ rfl
   have g1 : DataW.trod enc Tryz.prog W base sp held k 3 ((([v0, v1, v2, v3].drop 0).take 3 |>.drop 1).take (Tryz.prog.cellsOf 3)) = some y1 := hf2 1 _ rfl
   have g2 : DataW.trod enc Tryz.prog W base sp held k 3 ((([v0, v1, v2, v3].drop 0).take 3 |>.drop 2).take (Tryz.prog.cellsOf 3)) = some y2 := hf2 2 _ rfl
   rw [c9] at g0
   rw [c1] at g1 g2
   obtain ⟨s, e0, _, z0⟩ := DataW.trod_string Tryz.underlying9 g0
   obtain ⟨a1, e1, _, w1⟩ := DataW.trod_int Tryz.underlying3 g1
   obtain ⟨a2, e2, _, w2⟩ := DataW.trod_int Tryz.underlying3 g2
   obtain ⟨a3, e3, _, w3⟩ := DataW.trod_int Tryz.underlying2 f1
   simp at e0 e1 e2 e3
   subst e0 e1 e2 e3
   exact ⟨⟨s, a1, a2, a3⟩, ⟨z0, i64_of_wf w1, i64_of_wf w2, i64_of_wf w3⟩, rfl⟩
theorem fills_trod {H : Type} {enc : TypeId × Value → H} {W : World} {base : Nat} {sp : Nat → Bool} {held : Bool} {fuel : Nat} {v : Value} {x : DataW H × List MemPlace}
  (h : DataW.trod enc Tryz.prog W base sp held fuel 24 [v] = some x) : ∃ L : List Fl, IsFls W v L ∧ ∀ f ∈ L, f.ok := by
 rcases open_slice Tryz.underlying24 h with ⟨hcs, _⟩ | ⟨a, ln, cp, m, n, D, Pl, hcs, _, hl, hm, hmm, _, hx⟩
 ·simp at hcs
  subst hcs
  exact ⟨[], .inl ⟨rfl, rfl⟩, by simp⟩
 ·simp at hcs
  subst hcs
  rw [show Tryz.prog.cellsOf 41 = 4 by kernel_rfl] at hx
  have hle : ln ≤ m := by rw [hmm]; split <;> omega
  obtain ⟨S, hS⟩ := choose_lt (α := Fl) (n := ln) (p := fun i f => f.ok ∧ FlAt W (a.add (i * 4)) f) (fun i hi => by
   obtain ⟨cs', h1, h2⟩ := hx i (by omega)
   obtain ⟨f, hI, rfl⟩ := fill_open h2
   obtain ⟨_, _, h3⟩ := World.cells?_some h1
   generalize a.add (i * 4) = q at *
   have g0 := h3 0 (by omega)
   have g1 := h3 1 (by omega)
   have g2 := h3 2 (by omega)
   have g3 := h3 3 (by omega)
   rw [add_zero'] at g0
   rw [add_pos' _ (by omega)] at g1 g2 g3
   exact ⟨f, hI, g0, g1, g2, g3⟩)
  refine ⟨(List.range ln).map S, .inr ⟨a, cp, by simp, by simpa using hl, hm, fun i s hs => ?_⟩, fun r hr => ?_⟩
  ·have hi : i < ln := by
    have := (List.getElem?_eq_some_iff.1 hs).1
    simpa using this
   have e : s = S i := by
    rw [List.getElem?_map, List.getElem?_range hi] at hs
    simpa using hs.symm
   subst e
   exact (hS i hi).2
  ·obtain ⟨i, hi, rfl⟩ := List.mem_map.1 hr
   exact (hS i (List.mem_range.1 hi)).1
structure DkIn (w : World) (wv tv fv : Value) (d : Dk) : Prop where
 dk : IsDk w wv tv fv d
 ws : ∀ r ∈ d.ws, r.ok
 ts : ∀ r ∈ d.ts, r.ok
 fs : ∀ f ∈ d.fs, f.ok
set_option maxRecDepth 100000 in
theorem open_deck {H : Type} {enc : TypeId × Value → H} {W : World} {base b0 : Nat} {sp : Nat → Bool} {held : Bool} {r : Reach} {v : Value} {d : DataW H} {p : List MemPlace}
  (hv : Value.okWide Tryz.prog W r b0 26 v) (h : DataW.Trod enc Tryz.prog W base sp held 26 v d p) : ∃ wv tv fv d, v = .agg #[wv, tv, fv] ∧ DkIn W wv tv fv d := by
 obtain ⟨cs, rfl, hsz⟩ := okWide_struct Tryz.underlying26 hv
 obtain ⟨fuel, hf⟩ := h
 obtain ⟨xs, n, _, _, hl, hlen, hf⟩ := DataW.trod_struct Tryz.underlying26 hf
 have e3 : Tryz.prog.cellsOf 26 = 3 := by kernel_rfl
 rw [e3] at hl hsz
 have cW : Tryz.prog.cellsOf 22 = 1 := by kernel_rfl
 have cT : Tryz.prog.cellsOf 23 = 1 := by kernel_rfl
 have cF : Tryz.prog.cellsOf 24 = 1 := by kernel_rfl
 obtain ⟨cl⟩ := cs
 match xs, hlen, cl, hsz with
 | [x0, x1, x2], _, [v0, v1, v2], _ =>
  have f0 : DataW.trod enc Tryz.prog W base sp held n 22 (([v0, v1, v2].drop 0).take (Tryz.prog.cellsOf 22)) = some x0 := hf 0 _ rfl
  have f1 : DataW.trod enc Tryz.prog W base sp held n 23 (([v0, v1, v2].drop 1).take (Tryz.prog.cellsOf 23)) = some x1 := hf 1 _ rfl
  have f2 : DataW.trod enc Tryz.prog W base sp held n 24 (([v0, v1, v2].drop 2).take (Tryz.prog.cellsOf 24)) = some x2 := hf 2 _ rfl
  rw [cW] at f0
  rw [cT] at f1
  rw [cF] at f2
  obtain ⟨WS, h1, h2⟩ := wares_trod f0
  obtain ⟨TS, h3, h4⟩ := tiprs_trod f1
  obtain ⟨FS, h5, h6⟩ := fills_trod f2
  exact ⟨v0, v1, v2, ⟨WS, TS, FS⟩, rfl, ⟨h1, h3, h5⟩, h2, h4, h6⟩
end Go.Proofs.YtglniapfnhedoaaGreatDoor
namespace Go.Proofs.YtglniapfnhedoaaGreatDoor
open Go.RowKit
set_option linter.unusedVariables false
theorem rights9_ok (wv tv fv : Value) (D : Dk) (a b c d : Int) (lv : Value) (ll : List Nat) (bend v : Int) (wa : (Lit.int .u8 a).wf = true) (wb : (Lit.int .u8 b).wf = true) (wc : (Lit.int .u8 c).wf = true) (wd : (Lit.int .u8 d).wf = true) (we : (Lit.int .u8 bend).wf = true) (wf : (Lit.int .i64 v).wf = true) (w : World) (hD : DkIn w wv tv fv D) (hU : IsU32s w lv ll)
  (htab : Lib.TabIs Tryz.prog w "internal/strconv.uint64pow10" .u64 Lib.pow10Tab) :
  Calls Tryz.prog 3 #[.agg #[wv, tv, fv], .int .u8 a, .int .u8 b, .int .u8 c, .int .u8 d, lv, .int .u8 bend, .int .i64 v] w fun e w' => e = .returned (.bool true) ∧ B w w' := by
 obtain ⟨n1, n2⟩ := u8_wf we
 have h := rights9_any wv tv fv D a b c d lv ll bend.toNat v (by omega) (i64_wf wf) (u8_wf wa) (u8_wf wb) (u8_wf wc) (u8_wf wd) w hD.dk (fun few => ⟨fun r hr => (hD.ws r hr).1, fun r hr => ⟨(hD.ws r hr).2.1, (hD.ws r hr).2.2.1⟩, fun r hr => (hD.ts r hr).1, fun f hf => ⟨(hD.fs f hf).1, (hD.fs f hf).2.1, (hD.fs f hf).2.2.1⟩, few⟩) hU htab
 rw [show ((bend.toNat : Nat) : Int) = bend by omega] at h
 exact h
end Go.Proofs.YtglniapfnhedoaaGreatDoor
