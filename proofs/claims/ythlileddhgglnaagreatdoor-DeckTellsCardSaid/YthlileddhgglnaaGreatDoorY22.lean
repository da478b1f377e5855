/-
 Contracts and what they rest on.
-/
import Derived.Deep.QuietTactic
import Derived.BigQuiet
import Derived.Laws.Strings2
import Derived.Laws.Slices
import Derived.KernelRfl
import Derived.Test.YthlileddhgglnaaGreatDoorY21
namespace Go.Proofs.YthlileddhgglnaaGreatDoor
open Go.RowKit
set_option linter.unusedVariables false
structure RbL (L : List Rec) (k0 b : Nat) (w : World) (sv : Value) (ps : List Value) (i : Nat) : Prop where
 row : w.ownsRow k0 69 1 sv i ps
 tab : ∀ (j : Nat) r, j < i → L[j]? = some r → ∃ p lo hi, ps[j]? = some (.pointer (some ⟨p, 0, none⟩)) ∧ Held (fun w => RTab w (.pointer (some ⟨p, 0, none⟩)) (slAll r.l)) lo hi w ∧ b < lo ∧ ∀ g, sv.ownBlock = some g → g < lo ∨ hi ≤ g
theorem RbL.start (L : List Rec) (k0 b : Nat) (w : World) : RbL L k0 b w (.slice none 0 0) [] 0 := ⟨World.ownsRow_nil _ _ _ _, fun j r h => by omega⟩
theorem RbL.keepB {L : List Rec} {k0 b i : Nat} {w w' : World} {sv : Value} {ps : List Value} (h : RbL L k0 b w sv ps i) (q : B w w') : RbL L k0 b w' sv ps i :=
 ⟨own_keepBx h.row q, fun j r hj hr => let ⟨p, lo, hi, h1, h2, h3, h4⟩ := h.tab j r hj hr; ⟨p, lo, hi, h1, h2.keepB q, h3, h4⟩⟩
theorem RbL.put {L : List Rec} {k0 b i : Nat} {w w' : World} {sv : Value} {ps : List Value} {cs : Array Value} {t : TypeId} (h : RbL L k0 b w sv ps i) (ho : w.heap[b]? = some (.cells cs t (0, 0))) (ht : t ≠ 69) (q : G (fun k => k = b) w w') : RbL L k0 b w' sv ps i :=
 ⟨own_objG h.row ho ht q, fun j r hj hr => let ⟨p, lo, hi, h1, h2, h3, h4⟩ := h.tab j r hj hr; ⟨p, lo, hi, h1, q.held h2 (fun k h5 h6 e => by omega), h3, h4⟩⟩
theorem ptInfo : (Tryz.prog.info? 69).map (fun i => (i.zero, i.size, i.bytes)) = some (some (.pointer none), 1, 8) := by kernel_rfl
theorem RbL.more {L : List Rec} {k0 b i p : Nat} {r : Rec} {w wt wN : World} {sv : Value} {ps : List Value} {gN cN : Nat} (h : RbL L k0 b w sv ps i) (hr : L[i]? = some r) (hb : b < w.heap.size) (q : B w wt)
  (ht : Held (fun w => RTab w (.pointer (some ⟨p, 0, none⟩)) (slAll r.l)) w.heap.size wt.heap.size wt) (qa : B wt (wt.alloc (.cells #[.pointer (some ⟨p, 0, none⟩)] 69)))
  (hown : wN.ownsRow k0 69 1 (.slice (some ⟨gN, 0, none⟩) (i + 1) cN) (i + 1) (ps ++ [.pointer (some ⟨p, 0, none⟩)])) (hgr : (wt.alloc (.cells #[.pointer (some ⟨p, 0, none⟩)] 69)).grownBy wN sv.ownBlock) (hat : sv.ownBlock = some gN ∨ gN = (wt.alloc (.cells #[.pointer (some ⟨p, 0, none⟩)] 69)).heap.size) :
  RbL L k0 b wN (.slice (some ⟨gN, 0, none⟩) (i + 1) cN) (ps ++ [.pointer (some ⟨p, 0, none⟩)]) (i + 1) := by
 have hz1 := q.below.size
 have hz2 := qa.below.size
 have hps : ps.length = i := by have := h.row.1; omega
 have gA : G (fun k => sv.ownBlock = some k) (wt.alloc (.cells #[.pointer (some ⟨p, 0, none⟩)] 69)) wN := (G.refl _ _).grown hgr (fun k hk => .inl hk)
 have hsv : ∀ g, sv.ownBlock = some g → g < w.heap.size := fun g hg => (h.row.lt g hg).2
 refine ⟨hown, fun j r' hj hr' => ?_⟩
 by_cases e : j = i
 ·subst e
  obtain rfl : r = r' := Option.some.inj (hr.symm.trans hr')
  refine ⟨p, w.heap.size, wt.heap.size, by rw [List.getElem?_append_right (by omega), hps, Nat.sub_self]; rfl, gA.held (ht.keepB qa) (fun k h5 h6 e => by have := hsv k e; omega), hb, fun g hg => ?_⟩
  obtain rfl : gN = g := Option.some.inj hg
  rcases hat with h9 | h9
  ·exact .inl (hsv _ h9)
  ·exact .inr (by omega)
 ·obtain ⟨p', lo, hi, h1, h2, h3, h4⟩ := h.tab j r' (by omega) hr'
  refine ⟨p', lo, hi, by rw [List.getElem?_append_left (by omega)]; exact h1, gA.held ((h2.keepB q).keepB qa) (fun k h5 h6 e => by have := h4 k e; omega), h3, fun g hg => ?_⟩
  obtain rfl : gN = g := Option.some.inj hg
  rcases hat with h9 | h9
  ·exact h4 _ h9
  ·have := h2.le
   exact .inr (by omega)
def RBt (d : Dk) (b : Nat) (wv tv fv : Value) (w : World) : Prop :=
 ∃ gw cw gt ct, w.heap[b]? = some (.cells #[wv, tv, fv, .slice gw d.ws.length cw, .slice gt d.ts.length ct] 84 (0, 0)) ∧
  (∀ (i : Nat) r, d.ws[i]? = some r → ∃ p g, gw = some ⟨g, 0, none⟩ ∧ w.cell? ⟨g, i, none⟩ = some (.pointer (some ⟨p, 0, none⟩)) ∧ RTab w (.pointer (some ⟨p, 0, none⟩)) (slAll r.l)) ∧
  (∀ (i : Nat) r, d.ts[i]? = some r → ∃ p g, gt = some ⟨g, 0, none⟩ ∧ w.cell? ⟨g, i, none⟩ = some (.pointer (some ⟨p, 0, none⟩)) ∧ RTab w (.pointer (some ⟨p, 0, none⟩)) (slAll r.l))
theorem RbL.cells {L : List Rec} {k0 b n : Nat} {w : World} {o : Option Addr} {c : Nat} {ps : List Value} (h : RbL L k0 b w (.slice o n c) ps n) (hn : n = L.length) : ∀ (i : Nat) r, L[i]? = some r → ∃ p g, o = some ⟨g, 0, none⟩ ∧ w.cell? ⟨g, i, none⟩ = some (.pointer (some ⟨p, 0, none⟩)) ∧ RTab w (.pointer (some ⟨p, 0, none⟩)) (slAll r.l) := fun i r hr => by
 have hi : i < n := by rw [hn]; exact (List.getElem?_eq_some_iff.1 hr).1
 obtain ⟨p, lo, hi', h1, h2, _⟩ := h.tab i r hi hr
 obtain ⟨g, cap, e, _⟩ := h.row.form (by omega)
 simp only [Value.slice.injEq, true_and] at e
 obtain ⟨rfl, rfl⟩ := e
 have := h.row.cellAt (i * 1) (by omega)
 rw [Nat.mul_one] at this
 exact ⟨p, g, rfl, this.trans h1, h2.now⟩
theorem RbL.cellsAt {L : List Rec} {k0 b n : Nat} {w w' : World} {o : Option Addr} {c : Nat} {ps : List Value} (h : RbL L k0 b w (.slice o n c) ps n) (hn : n = L.length) (hb : ∀ k, b ≤ k → k < w.heap.size → w'.heap[k]? = w.heap[k]?) (hk : b ≤ k0) : ∀ (i : Nat) r, L[i]? = some r → ∃ p g, o = some ⟨g, 0, none⟩ ∧ w'.cell? ⟨g, i, none⟩ = some (.pointer (some ⟨p, 0, none⟩)) ∧ RTab w' (.pointer (some ⟨p, 0, none⟩)) (slAll r.l) := fun i r hr => by
 have hi : i < n := by rw [hn]; exact (List.getElem?_eq_some_iff.1 hr).1
 obtain ⟨p, lo, hi', h1, h2, h3, _⟩ := h.tab i r hi hr
 have hrow := own_on h.row (fun k h1 h2 => hb k (by omega) h2)
 obtain ⟨g, cap, e, _⟩ := hrow.form (by omega)
 simp only [Value.slice.injEq, true_and] at e
 obtain ⟨rfl, rfl⟩ := e
 have := hrow.cellAt (i * 1) (by omega)
 rw [Nat.mul_one] at this
 exact ⟨p, g, rfl, this.trans h1, h2.any w' (fun k h5 h6 => hb k (by omega) (by have := h2.le; omega))⟩
theorem RbL.on {L : List Rec} {k0 b i : Nat} {w w' : World} {sv : Value} {ps : List Value} (h : RbL L k0 b w sv ps i) (hb : ∀ k, b ≤ k → k < w.heap.size → w'.heap[k]? = w.heap[k]?) (hk : b ≤ k0) (hs : w.heap.size ≤ w'.heap.size) : RbL L k0 b w' sv ps i :=
 ⟨own_on h.row (fun k h1 h2 => hb k (by omega) h2), fun j r hj hr => let ⟨p, lo, hi, h1, h2, h3, h4⟩ := h.tab j r hj hr; ⟨p, lo, hi, h1, h2.on hs (fun k h5 h6 => hb k (by omega) (by have := h2.le; omega)), h3, h4⟩⟩
end Go.Proofs.YthlileddhgglnaaGreatDoor
namespace Go.Proofs.YthlileddhgglnaaGreatDoor
open Go.RowKit
set_option linter.unusedVariables false
set_option maxRecDepth 100000 in
set_option maxHeartbeats 4000000 in
theorem r11no_any (wv tv fv : Value) (d : Dk) (w : World) (h : IsDk w wv tv fv d) (hr : rightD d = false) : Calls Tryz.prog 18 #[.agg #[wv, tv, fv]] w fun e w' => e = .returned (.tuple #[.pointer none, .int .i64 20]) ∧ B w w' := by
 obtain ⟨ao, ac, bo, bc, co, cc, rfl, rfl, rfl⟩ := h.forms
 have q0 : B w (w.alloc (.cells #[.slice ao d.ws.length ac, .slice bo d.ts.length bc, .slice co d.fs.length cc] 26)) := (B.refl w).alloc _ _
 have cR := r8deckright_any _ _ _ d _ (h.keepB q0)
 rw [hr] at cR
 have hnot : ∀ (x : Bool) (w : World), (Op.unary .not (.bool x)).run Tryz.prog w = .ok (.bool (!x)) w := fun _ _ => rfl
 clear h
 go_enter Tryz.func18, Tryz.ntmps18
 go_wp2_with fail
 generalize w.alloc (.cells #[.slice ao d.ws.length ac, .slice bo d.ts.length bc, .slice co d.fs.length cc] 26) = w0 at *
 refine cR.mono ?_
 rintro e w1 ⟨rfl, q1⟩
 have HZ := Lib.hid (q0.trans q1)
 clear cR q0 q1
 go_wp2
 go_ret2
 exact ⟨rfl, HZ.out⟩
set_option maxRecDepth 100000 in
set_option maxHeartbeats 4000000 in
theorem r11new_any (wv tv fv : Value) (d : Dk) (w : World) (h : IsDk w wv tv fv d) (hr : rightD d = true) : Calls Tryz.prog 18 #[.agg #[wv, tv, fv]] w fun e w' => ∃ b, e = .returned (.tuple #[.pointer (some ⟨b, 0, none⟩), .int .i64 0]) ∧ Held (RBt d b wv tv fv) w.heap.size w'.heap.size w' ∧ B w w' := by
 obtain ⟨p8, p4, pW, pT⟩ := right_parts9 hr
 have hWr : ∀ r ∈ d.ws, rightS r.l = true := fun r hm => by
  obtain ⟨i, hi⟩ := List.getElem?_of_mem hm
  exact wareOk_right (apart_at pW hi).1
 have hTr : ∀ r ∈ d.ts, rightS r.l = true := fun r hm => by
  obtain ⟨i, hi⟩ := List.getElem?_of_mem hm
  exact tipOk_right (apart_at pT hi).1
 obtain ⟨ao, ac, bo, bc, co, cc, rfl, rfl, rfl⟩ := h.forms
 have q0 : B w (w.alloc (.cells #[.slice ao d.ws.length ac, .slice bo d.ts.length bc, .slice co d.fs.length cc] 26)) := (B.refl w).alloc _ _
 have oD := obj_new w (.cells #[.slice ao d.ws.length ac, .slice bo d.ts.length bc, .slice co d.fs.length cc] 26)
 have cR := r8deckright_any _ _ _ d _ (h.keepB q0)
 rw [hr] at cR
 have hnot : ∀ (x : Bool) (w : World), (Op.unary .not (.bool x)).run Tryz.prog w = .ok (.bool (!x)) w := fun _ _ => rfl
 go_enter Tryz.func18, Tryz.ntmps18
 go_wp2_with fail
 generalize w.alloc (.cells #[.slice ao d.ws.length ac, .slice bo d.ts.length bc, .slice co d.fs.length cc] 26) = w0 at *
 refine cR.mono ?_
 rintro e w1 ⟨rfl, q1⟩
 have oDa := q1.obj oD
 have k0 := obj_cell oDa 0
 have k1' := obj_cell oDa 1
 have k2' := obj_cell oDa 2
 have qb : B w1 (w1.alloc (.cells #[.slice ao d.ws.length ac, .slice bo d.ts.length bc, .slice co d.fs.length cc, .slice none 0 0, .slice none 0 0] 84)) := (B.refl _).alloc _ _
 have oB1 := obj_new w1 (.cells #[.slice ao d.ws.length ac, .slice bo d.ts.length bc, .slice co d.fs.length cc, .slice none 0 0, .slice none 0 0] 84)
 have oD1 := qb.obj oDa
 have b1 := (q0.trans q1).trans qb
 have hwb : w.heap.size ≤ w1.heap.size := (q0.trans q1).below.size
 have hDb := obj_lt oDa
 clear cR q0 q1 oD qb oDa
 go_wp2_with fail
 generalize w1.alloc (.cells #[.slice ao d.ws.length ac, .slice bo d.ts.length bc, .slice co d.fs.length cc, .slice none 0 0, .slice none 0 0] 84) = W1 at *
 generalize w1.heap.size = b at *
 generalize hDbe : w.heap.size = Db at *
 obtain ⟨k1, hk1⟩ : ∃ k, W1.heap.size = k := ⟨_, rfl⟩
 have hbk := obj_lt oB1
 clear k0 k1' k2'
 go_loopw [5] (fun iv wr => ∃ (i : Nat) (sv : Value) (ps : List Value), i ≤ d.ws.length ∧ iv = .int .i64 i ∧ RbL d.ws k1 b wr sv ps i ∧ wr.heap[b]? = some (.cells #[.slice ao d.ws.length ac, .slice bo d.ts.length bc, .slice co d.fs.length cc, sv, .slice none 0 0] 84 (0, 0)) ∧ G (fun k => k = b) W1 wr) (fun iv _ => d.ws.length + 1 - (intOf iv).toNat)
 case atStart => exact ⟨0, .slice none 0 0, [], Nat.zero_le _, rfl, RbL.start _ _ _ _, oB1, G.refl _ _⟩
 case round =>
  obtain ⟨i, sv, ps, hi, rfl, hL, oBl, hg⟩ := hrel
  obtain ⟨wl, rfl⟩ : ∃ wl : World, wl = wr := ⟨_, rfl⟩
  obtain ⟨so, sc, rfl⟩ := ownsRow_form hL.row
  have oDl := hg.obj (by show ¬ Db = b; omega) oD1
  have d0 := obj_cell oDl 0
  have bl := hg.b b1 (fun i hi => by subst hi; rw [hDbe]; exact hwb)
  by_cases hl : i < d.ws.length
  ·have hlB : decide ((i : Int) < (d.ws.length : Int)) = true := decide_eq_true (by omega)
   have hlN : decide (i < d.ws.length) = true := decide_eq_true hl
   have hi0 : (0 : Int) ≤ (i : Int) := by omega
   have hiI : (i : Int) < (d.ws.length : Int) := by omega
   have wk1 : IntKind.i64.wrap ((i : Int) + 1) = (i : Int) + 1 := by rw [IntKind.wrap_i64]; omega
   obtain ⟨xa, xc, hxa, _, _, hrec⟩ := h.ws.at_ hl
   simp only [Value.slice.injEq, true_and] at hxa
   obtain ⟨rfl, rfl⟩ := hxa
   have hr : d.ws[i]? = some d.ws[i] := List.getElem?_eq_getElem hl
   have hok := hWr _ (List.mem_of_getElem? hr)
   generalize d.ws[i] = r at *
   obtain ⟨v, g4, hsv⟩ := hrec.l
   obtain ⟨vo, vn, vc, rfl⟩ := hsv.form
   replace g4 := bl.keep g4
   have cO := r3of_held _ r.l wl (hsv.keepB bl)
   have HL := Lib.hid (And.intro hL (And.intro oBl (And.intro hg (And.intro hr (And.intro hl hok)))))
   clear hL oBl hg hr hl hrec hsv
   go_wp2_with fail
   refine cO.mono ?_
   rintro e wt (⟨_, p0, rfl, ht, qt⟩ | ⟨h0, _⟩)
   ·obtain ⟨p, _, _, _, _, rfl, _⟩ := ht.now
    obtain ⟨hL, oBl, hg, hr, hl, _⟩ := HL.out
    have oBt := qt.obj oBl
    have y3 := obj_cell oBt 3
    have qa : B wt (wt.alloc (.cells #[.pointer (some ⟨p, 0, none⟩)] 69)) := (B.refl _).alloc _ _
    have hownA := own_keepBx (own_keepBx hL.row qt) qa
    have oBa := qa.obj oBt
    have hbA : k1 ≤ (wt.alloc (.cells #[.pointer (some ⟨p, 0, none⟩)] 69)).heap.size := by have h1 := hg.size; have h2 := qt.below.size; have h3 := qa.below.size; omega
    have hfar := farF2 oBa hownA (by decide)
    obtain ⟨i0, hi0', hz0, hz1, hz2⟩ := info_of ptInfo
    have hl1 : i + 1 ≤ maxLen := by unfold maxLen; omega
    have hl2 : (i + 1) * 8 ≤ 140737488355328 := by omega
    have HA := Lib.hid (And.intro oBa (And.intro qa (And.intro qt (And.intro ht hownA))))
    clear hL oBl hg hr hl oBt qa ht qt cO bl
    go_wp2_with (at_builtin; refine wpList_append_lies _ rfl _ _ 82 rfl k1 69 i0 (.pointer none) 1 8 Tryz.underlying82 hi0' hz0 hz1 hz2 rfl (by omega) _ i ps rfl hownA ⟨wt.heap.size, 0, none⟩ 1 1 [.pointer (some ⟨p, 0, none⟩)] rfl rfl (news_plain rfl) (by simp [Value.oneCell']) (by omega) hl1 hl2 hbA _ rfl ?_; intro gN cN w9 hownN hgrowN hatN hltN; have oB9 := obj_grown hgrowN oBa hfar; have y9 := obj_cell oB9 3; have z9 := obj_free oB9 3)
    obtain ⟨hL, oBl, hg, hr, hl, _⟩ := HL.out
    obtain ⟨_, qa, qt, ht, _⟩ := HA.out
    have hM := hL.more hr (obj_lt oBl) qt ht qa hownN hgrowN hatN
    have gp : G (fun k => k = b) w9 (w9.setCell ⟨b, 3, none⟩ (.slice (some ⟨gN, 0, none⟩) (i + 1) cN)) := one_own _ _ _ _
    have hM2 := hM.put oB9 (by decide) gp
    have oB10 : (w9.setCell ⟨b, 3, none⟩ (.slice (some ⟨gN, 0, none⟩) (i + 1) cN)).heap[b]? = some (.cells #[.slice (some xa) d.ws.length ac, .slice bo d.ts.length bc, .slice co d.fs.length cc, (.slice (some ⟨gN, 0, none⟩) (i + 1) cN), .slice none 0 0] 84 (0, 0)) := by simpa using obj_set oB9 3 (.slice (some ⟨gN, 0, none⟩) (i + 1) cN)
    have hg10 : G (fun k => k = b) W1 (w9.setCell ⟨b, 3, none⟩ (.slice (some ⟨gN, 0, none⟩) (i + 1) cN)) := (((hg.trans (qt.g _)).trans (qa.g _)).grown hgrowN (fun k hk => .inr (by have := (hL.row.lt k hk).1; rw [hk1]; exact this))).trans gp
    have HZ := Lib.hid (And.intro hM2 (And.intro oB10 (And.intro hg10 hl)))
    clear hM hM2 oB10 hg10 gp hL oBl hg hr hl qa qt ht hownN hgrowN hatN hltN oB9 y9 z9 HL HA hownA
    go_roundw
    case rel => exact ⟨i + 1, _, _, by have := HZ.out.2.2.2; omega, by go_num, HZ.out.1, HZ.out.2.1, HZ.out.2.2.1⟩
    case measure => have := HZ.out.2.2.2; simp [intOf]; omega
   ·have := HL.out.2.2.2.2.2
    rw [this] at h0
    cases h0
  ·have hlB : decide ((i : Int) < (d.ws.length : Int)) = false := decide_eq_false (by omega)
   have hlN : decide (i < d.ws.length) = false := decide_eq_false hl
   obtain rfl : i = d.ws.length := by omega
   obtain ⟨W2, rfl⟩ : ∃ W2 : World, W2 = wl := ⟨_, rfl⟩
   have oD2 := oDl
   have oB2 := oBl
   have b2 := bl
   have hL1 := hL
   obtain ⟨uo, rfl⟩ : ∃ o, o = so := ⟨_, rfl⟩
   obtain ⟨uc, rfl⟩ : ∃ o, o = sc := ⟨_, rfl⟩
   obtain ⟨ps1, rfl⟩ : ∃ o, o = ps := ⟨_, rfl⟩
   obtain ⟨k2, hk2⟩ : ∃ k, W2.heap.size = k := ⟨_, rfl⟩
   have hk12 : k1 ≤ k2 := by have := hg.size; omega
   have H1 := Lib.hid (And.intro hL1 oBl)
   clear hL oDl oBl bl hg hL1
   have d1 := obj_cell oD2 1
   go_wp2_with fail
   clear hlB hlN hl hi d0
   go_loopw [8] (fun iv wr => ∃ (i : Nat) (sv : Value) (ps : List Value), i ≤ d.ts.length ∧ iv = .int .i64 i ∧ RbL d.ts k2 b wr sv ps i ∧ wr.heap[b]? = some (.cells #[.slice ao d.ws.length ac, .slice bo d.ts.length bc, .slice co d.fs.length cc, .slice uo d.ws.length uc, sv] 84 (0, 0)) ∧ G (fun k => k = b) W2 wr) (fun iv _ => d.ts.length + 1 - (intOf iv).toNat)
   case atStart => exact ⟨0, .slice none 0 0, [], Nat.zero_le _, rfl, RbL.start _ _ _ _, oB2, G.refl _ _⟩
   case round =>
    obtain ⟨i, sv, ps, hi, rfl, hL, oBl, hg⟩ := hrel
    obtain ⟨wl, rfl⟩ : ∃ wl : World, wl = wr := ⟨_, rfl⟩
    obtain ⟨so, sc, rfl⟩ := ownsRow_form hL.row
    have oDl := hg.obj (by show ¬ Db = b; omega) oD2
    have d0 := obj_cell oDl 1
    have bl := hg.b b2 (fun i hi => by subst hi; rw [hDbe]; exact hwb)
    by_cases hl : i < d.ts.length
    ·have hlB : decide ((i : Int) < (d.ts.length : Int)) = true := decide_eq_true (by omega)
     have hlN : decide (i < d.ts.length) = true := decide_eq_true hl
     have hi0 : (0 : Int) ≤ (i : Int) := by omega
     have hiI : (i : Int) < (d.ts.length : Int) := by omega
     have wk1 : IntKind.i64.wrap ((i : Int) + 1) = (i : Int) + 1 := by rw [IntKind.wrap_i64]; omega
     obtain ⟨xa, xc, hxa, _, _, hrec⟩ := h.ts.at_ hl
     simp only [Value.slice.injEq, true_and] at hxa
     obtain ⟨rfl, rfl⟩ := hxa
     have hr : d.ts[i]? = some d.ts[i] := List.getElem?_eq_getElem hl
     have hok := hTr _ (List.mem_of_getElem? hr)
     generalize d.ts[i] = r at *
     obtain ⟨v, g4, hsv⟩ := hrec.l
     obtain ⟨vo, vn, vc, rfl⟩ := hsv.form
     replace g4 := bl.keep g4
     have cO := r3of_held _ r.l wl (hsv.keepB bl)
     have HL := Lib.hid (And.intro hL (And.intro oBl (And.intro hg (And.intro hr (And.intro hl hok)))))
     clear hL oBl hg hr hl hrec hsv
     go_wp2_with fail
     refine cO.mono ?_
     rintro e wt (⟨_, p0, rfl, ht, qt⟩ | ⟨h0, _⟩)
     ·obtain ⟨p, _, _, _, _, rfl, _⟩ := ht.now
      obtain ⟨hL, oBl, hg, hr, hl, _⟩ := HL.out
      have oBt := qt.obj oBl
      have y3 := obj_cell oBt 4
      have qa : B wt (wt.alloc (.cells #[.pointer (some ⟨p, 0, none⟩)] 69)) := (B.refl _).alloc _ _
      have hownA := own_keepBx (own_keepBx hL.row qt) qa
      have oBa := qa.obj oBt
      have hbA : k2 ≤ (wt.alloc (.cells #[.pointer (some ⟨p, 0, none⟩)] 69)).heap.size := by have h1 := hg.size; have h2 := qt.below.size; have h3 := qa.below.size; omega
      have hfar := farF2 oBa hownA (by decide)
      obtain ⟨i0, hi0', hz0, hz1, hz2⟩ := info_of ptInfo
      have hl1 : i + 1 ≤ maxLen := by unfold maxLen; omega
      have hl2 : (i + 1) * 8 ≤ 140737488355328 := by omega
      have HA := Lib.hid (And.intro oBa (And.intro qa (And.intro qt (And.intro ht hownA))))
      clear hL oBl hg hr hl oBt qa ht qt cO bl
      go_wp2_with (at_builtin; refine wpList_append_lies _ rfl _ _ 82 rfl k2 69 i0 (.pointer none) 1 8 Tryz.underlying82 hi0' hz0 hz1 hz2 rfl (by omega) _ i ps rfl hownA ⟨wt.heap.size, 0, none⟩ 1 1 [.pointer (some ⟨p, 0, none⟩)] rfl rfl (news_plain rfl) (by simp [Value.oneCell']) (by omega) hl1 hl2 hbA _ rfl ?_; intro gN cN w9 hownN hgrowN hatN hltN; have oB9 := obj_grown hgrowN oBa hfar; have y9 := obj_cell oB9 4; have z9 := obj_free oB9 4)
      obtain ⟨hL, oBl, hg, hr, hl, _⟩ := HL.out
      obtain ⟨_, qa, qt, ht, _⟩ := HA.out
      have hM := hL.more hr (obj_lt oBl) qt ht qa hownN hgrowN hatN
      have gp : G (fun k => k = b) w9 (w9.setCell ⟨b, 4, none⟩ (.slice (some ⟨gN, 0, none⟩) (i + 1) cN)) := one_own _ _ _ _
      have hM2 := hM.put oB9 (by decide) gp
      have oB10 : (w9.setCell ⟨b, 4, none⟩ (.slice (some ⟨gN, 0, none⟩) (i + 1) cN)).heap[b]? = some (.cells #[.slice ao d.ws.length ac, .slice (some xa) d.ts.length bc, .slice co d.fs.length cc, .slice uo d.ws.length uc, (.slice (some ⟨gN, 0, none⟩) (i + 1) cN)] 84 (0, 0)) := by simpa using obj_set oB9 4 (.slice (some ⟨gN, 0, none⟩) (i + 1) cN)
      have hg10 : G (fun k => k = b) W2 (w9.setCell ⟨b, 4, none⟩ (.slice (some ⟨gN, 0, none⟩) (i + 1) cN)) := (((hg.trans (qt.g _)).trans (qa.g _)).grown hgrowN (fun k hk => .inr (by have := (hL.row.lt k hk).1; rw [hk2]; exact this))).trans gp
      have HZ := Lib.hid (And.intro hM2 (And.intro oB10 (And.intro hg10 hl)))
      clear hM hM2 oB10 hg10 gp hL oBl hg hr hl qa qt ht hownN hgrowN hatN hltN oB9 y9 z9 HL HA hownA
      go_roundw
      case rel => exact ⟨i + 1, _, _, by have := HZ.out.2.2.2; omega, by go_num, HZ.out.1, HZ.out.2.1, HZ.out.2.2.1⟩
      case measure => have := HZ.out.2.2.2; simp [intOf]; omega
     ·have := HL.out.2.2.2.2.2
      rw [this] at h0
      cases h0
    ·have hlB : decide ((i : Int) < (d.ts.length : Int)) = false := decide_eq_false (by omega)
     have hlN : decide (i < d.ts.length) = false := decide_eq_false hl
     obtain rfl : i = d.ts.length := by omega
     obtain ⟨hL1, _⟩ := H1.out
     have hL1w := hL1.put oB2 (by decide) hg
     have hbl := obj_lt oBl
     have hRB : Held (RBt d b (.slice ao d.ws.length ac) (.slice bo d.ts.length bc) (.slice co d.fs.length cc)) b wl.heap.size wl := ⟨⟨_, _, _, _, oBl, hL1w.cells rfl, hL.cells rfl⟩, Nat.le_refl _, fun w' hb => ⟨_, _, _, _, (hb b (Nat.le_refl _) hbl).trans oBl, hL1w.cellsAt rfl hb (by omega), hL.cellsAt rfl hb (by omega)⟩⟩
     have HZ := Lib.hid (And.intro (hRB.wide hwb (Nat.le_refl _) (Nat.le_refl _)) bl)
     clear hRB hL hL1 hL1w oBl hg bl oDl
     go_wp2
     go_ret2
     exact ⟨b, rfl, by rw [hDbe]; exact HZ.out.1, HZ.out.2⟩
end Go.Proofs.YthlileddhgglnaaGreatDoor
namespace Go.Proofs.YthlileddhgglnaaGreatDoor
open Go.RowKit
theorem name_one {ok : Wr → Bool} {ws : List Wr} (hA : apartW ok ws = true) {i j : Nat} {a b : Wr} (ha : ws[i]? = some a) (hb : ws[j]? = some b) (h : a.n = b.n) : a = b := by
 have key : ∀ {i j : Nat} {a b : Wr}, ws[i]? = some a → ws[j]? = some b → i < j → a.n ≠ b.n := fun {i j a b} ha hb hij he => by
  have hap := (apart_at hA hb).2
  unfold namedW at hap
  rw [List.any_eq_false] at hap
  have := hap a (List.mem_of_getElem? (show (ws.take j)[i]? = some a by rw [List.getElem?_take, if_pos hij]; exact ha))
  rw [he] at this
  simp at this
 rcases Nat.lt_trichotomy i j with hij | hij | hij
 ·exact absurd h (key ha hb hij)
 ·subst hij
  exact Option.some.inj (ha.symm.trans hb)
 ·exact absurd h.symm (key hb ha hij)
end Go.Proofs.YthlileddhgglnaaGreatDoor
namespace Go.Proofs.YthlileddhgglnaaGreatDoor
open Go.RowKit
set_option linter.unusedVariables false
theorem beq_ba (a b : ByteArray) : (a == b) = (a.toList == b.toList) := beq_toListBytes a b
set_option maxHeartbeats 2000000 in
theorem r11tip_any (d : Dk) (b : Nat) (wv tv fv : Value) (w : World) (hR : RBt d b wv tv fv w) (hD : IsDk w wv tv fv d) (n : ByteArray) :
  Calls Tryz.prog 30 #[.pointer (some ⟨b, 0, none⟩), .string n] w fun e w' => ∃ k : Int, e = .returned (.int .i64 k) ∧ ((namedL (d.ts.map (·.n)) n = false ∧ k = -1) ∨ ∃ (i : Nat) (rc : Wr), d.ts[i]? = some rc ∧ rc.n = n ∧ k = (i : Int)) ∧ B w w' := by
 obtain ⟨gw, cw, gt, ct, ho, _, _⟩ := hR
 obtain ⟨ao, ac, bo, bc, co, cc, rfl, rfl, rfl⟩ := hD.forms
 have hlen := hD.ts.len
 have y0 := obj_cell ho 1
 clear ho
 go_enter Tryz.func30, Tryz.ntmps30
 go_wp2
 go_loopw [5] (fun iv wr => ∃ i : Nat, i ≤ d.ts.length ∧ iv = .int .i64 i ∧ (∀ j r, j < i → d.ts[j]? = some r → (r.n.toList == n.toList) = false) ∧ B w wr) (fun iv _ => d.ts.length + 1 - (intOf iv).toNat)
 case atStart => exact ⟨0, Nat.zero_le _, rfl, fun j r h => by omega, B.refl _⟩
 case round =>
  obtain ⟨i, hi, rfl, hno, q⟩ := hrel
  obtain ⟨wl, rfl⟩ : ∃ wl : World, wl = wr := ⟨_, rfl⟩
  replace y0 := q.keep y0
  by_cases hl : i < d.ts.length
  ·have hlB : decide ((i : Int) < (d.ts.length : Int)) = true := decide_eq_true (by omega)
   have hlN : decide (i < d.ts.length) = true := decide_eq_true hl
   have hlI : (i : Int) < (d.ts.length : Int) := by omega
   have hi0 : (0 : Int) ≤ (i : Int) := by omega
   have wk1 : IntKind.i64.wrap ((i : Int) + 1) = (i : Int) + 1 := by rw [IntKind.wrap_i64]; omega
   have hr : d.ts[i]? = some d.ts[i] := List.getElem?_eq_getElem hl
   obtain ⟨a, cap, e1, _, _, hrec⟩ := (hD.ts.keepB q).at_ hl
   simp only [Value.slice.injEq, true_and] at e1
   obtain ⟨rfl, rfl⟩ := e1
   have g0 := hrec.n
   generalize d.ts[i] = r at *
   cases hb : (r.n.toList == n.toList) with
   | true =>
    have hb' : (r.n == n) = true := by rw [beq_ba]; exact hb
    have HZ := Lib.hid (And.intro hr (And.intro (ba_eq (by simpa using hb)) q))
    clear hno hrec hr q hD hlen
    go_wp2_with fail
    go_ret
    exact ⟨(i : Int), rfl, .inr ⟨i, r, HZ.out.1, HZ.out.2.1, rfl⟩, HZ.out.2.2⟩
   | false =>
    have hb' : (r.n == n) = false := by rw [beq_ba]; exact hb
    have hno' : ∀ j r', j < i + 1 → d.ts[j]? = some r' → (r'.n.toList == n.toList) = false := fun j r' hj hr' => by
     by_cases h : j = i
     ·subst h
      obtain rfl := Option.some.inj (hr.symm.trans hr')
      exact hb
     ·exact hno j r' (by omega) hr'
    have HZ := Lib.hid (And.intro hno' (And.intro q hl))
    clear hno hno' hrec hr q hD hlen hl
    go_wp2
    go_roundw
    case rel => exact ⟨i + 1, by have := HZ.out.2.2; omega, by go_num, HZ.out.1, HZ.out.2.1⟩
    case measure => have := HZ.out.2.2; simp [intOf]; omega
  ·have hlB : decide ((i : Int) < (d.ts.length : Int)) = false := decide_eq_false (by omega)
   have hlN : decide (i < d.ts.length) = false := decide_eq_false hl
   have hnone : namedL (d.ts.map (·.n)) n = false := by
    rw [names_map]
    unfold namedW
    rw [List.any_eq_false]
    intro r hr
    obtain ⟨j, hj⟩ := List.getElem?_of_mem hr
    rw [hno j r (by have := (List.getElem?_eq_some_iff.1 hj).1; omega) hj]
    simp
   have HZ := Lib.hid (And.intro hnone q)
   clear hnone q hno hD hlen
   go_wp2
   go_ret
   exact ⟨-1, rfl, .inl ⟨HZ.out.1, rfl⟩, HZ.out.2⟩
end Go.Proofs.YthlileddhgglnaaGreatDoor
namespace Go.Proofs.YthlileddhgglnaaGreatDoor
open Go.RowKit
set_option linter.unusedVariables false
theorem tolW_first : ∀ (ws : List Wr) (n : ByteArray) (i : Nat) (r : Wr), ws[i]? = some r → (r.n.toList == n.toList) = true → (∀ j r', j < i → ws[j]? = some r' → (r'.n.toList == n.toList) = false) → tolW ws n = r.z
 | [], _, _, _, h, _, _ => by simp at h
 | w :: ws, n, 0, r, h, hb, _ => by
  obtain rfl : w = r := by simpa using h
  unfold tolW
  rw [List.find?_cons]
  simp only [hb]
 | w :: ws, n, i + 1, r, h, hb, hno => by
  have h0 := hno 0 w (by omega) rfl
  have ih := tolW_first ws n i r (by simpa using h) hb (fun j r' hj hr' => hno (j + 1) r' (by omega) (by simpa using hr'))
  unfold tolW at ih ⊢
  rw [List.find?_cons]
  simp only [h0]
  exact ih
theorem tolW_none : ∀ (ws : List Wr) (n : ByteArray), (∀ (j : Nat) r, ws[j]? = some r → (r.n.toList == n.toList) = false) → tolW ws n = 0
 | [], _, _ => rfl
 | w :: ws, n, h => by
  have h0 := h 0 w rfl
  have ih := tolW_none ws n (fun j r hr => h (j + 1) r (by simpa using hr))
  unfold tolW at ih ⊢
  rw [List.find?_cons]
  simp only [h0]
  exact ih
theorem indexW_named : ∀ (ws : List Wr) (K : Int) (n : ByteArray) (r c : Int), (indexW ws K n r c).isSome = true → ∃ w ∈ ws, (w.n.toList == n.toList) = true
 | [], _, _, _, _, h => by cases h
 | w :: ws, K, n, r, c, h => by
  rw [indexW] at h
  cases hb : (w.n.toList == n.toList) with
  | true => exact ⟨w, List.mem_cons_self .., hb⟩
  | false =>
   rw [hb] at h
   obtain ⟨v, hv, e⟩ := indexW_named ws _ n r c (by simpa using h)
   exact ⟨v, List.mem_cons_of_mem _ hv, e⟩
set_option maxRecDepth 100000 in
set_option maxHeartbeats 2000000 in
theorem r11tol_any (d : Dk) (b : Nat) (wv tv fv : Value) (w : World) (hR : RBt d b wv tv fv w) (hD : IsDk w wv tv fv d) (n : ByteArray) (r c : Int) :
  Calls Tryz.prog 75 #[.pointer (some ⟨b, 0, none⟩), .agg #[.string n, .int .i64 r, .int .i64 c]] w fun e w' => e = .returned (.int .i64 (tolW d.ws n)) ∧ B w w' := by
 obtain ⟨gw, cw, gt, ct, ho, _, _⟩ := hR
 have qa : B w (w.alloc (.cells #[.string n, .int .i64 r, .int .i64 c] 39)) := (B.refl _).alloc _ _
 have oW := obj_new w (.cells #[.string n, .int .i64 r, .int .i64 c] 39)
 obtain ⟨ao, ac, bo, bc, co, cc, rfl, rfl, rfl⟩ := hD.forms
 have hlen := hD.ws.len
 have hD1 := hD.keepB qa
 have y0 := obj_cell (qa.obj ho) 0
 have g0 := obj_cell oW 0
 clear ho oW hD
 go_enter Tryz.func75, Tryz.ntmps75
 go_wp2
 generalize w.alloc (.cells #[.string n, .int .i64 r, .int .i64 c] 39) = w1 at *
 generalize w.heap.size = Wb at *
 go_loopw [5] (fun iv wr => ∃ i : Nat, i ≤ d.ws.length ∧ iv = .int .i64 i ∧ (∀ j r, j < i → d.ws[j]? = some r → (r.n.toList == n.toList) = false) ∧ B w1 wr) (fun iv _ => d.ws.length + 1 - (intOf iv).toNat)
 case atStart => exact ⟨0, Nat.zero_le _, rfl, fun j r h => by omega, B.refl _⟩
 case round =>
  obtain ⟨i, hi, rfl, hno, q⟩ := hrel
  obtain ⟨wl, rfl⟩ : ∃ wl : World, wl = wr := ⟨_, rfl⟩
  replace y0 := q.keep y0
  replace g0 := q.keep g0
  by_cases hl : i < d.ws.length
  ·have hlB : decide ((i : Int) < (d.ws.length : Int)) = true := decide_eq_true (by omega)
   have hlN : decide (i < d.ws.length) = true := decide_eq_true hl
   have hlI : (i : Int) < (d.ws.length : Int) := by omega
   have hi0 : (0 : Int) ≤ (i : Int) := by omega
   have wk1 : IntKind.i64.wrap ((i : Int) + 1) = (i : Int) + 1 := by rw [IntKind.wrap_i64]; omega
   have hr : d.ws[i]? = some d.ws[i] := List.getElem?_eq_getElem hl
   obtain ⟨a, cap, e1, _, _, hrec⟩ := (hD1.ws.keepB q).at_ hl
   simp only [Value.slice.injEq, true_and] at e1
   obtain ⟨rfl, rfl⟩ := e1
   have t0 := hrec.n
   have tz := hrec.z
   generalize d.ws[i] = rr at *
   cases hb : (rr.n.toList == n.toList) with
   | true =>
    have hb' : (rr.n == n) = true := by rw [beq_ba]; exact hb
    have hz : tolW d.ws n = rr.z := by
     have e := tolW_first d.ws n i rr hr hb hno
     exact e
    have HZ := Lib.hid (And.intro hz q)
    clear hno hrec hr q hD1 hz
    go_wp2_with fail
    go_quiet (fail)
    go_wp2
    go_ret
    exact ⟨by rw [HZ.out.1]; rfl, qa.trans (HZ.out.2.drewN _)⟩
   | false =>
    have hb' : (rr.n == n) = false := by rw [beq_ba]; exact hb
    have hno' : ∀ j r', j < i + 1 → d.ws[j]? = some r' → (r'.n.toList == n.toList) = false := fun j r' hj hr' => by
     by_cases h : j = i
     ·subst h
      obtain rfl := Option.some.inj (hr.symm.trans hr')
      exact hb
     ·exact hno j r' (by omega) hr'
    have HZ := Lib.hid (And.intro hno' (And.intro q hl))
    clear hno hno' hrec hr q hD1 hl tz
    go_wp2_with fail
    go_quiet (fail)
    go_wp2
    go_roundw
    case rel => exact ⟨i + 1, by have := HZ.out.2.2; omega, by go_num, HZ.out.1, HZ.out.2.1.drewN _⟩
    case measure => have := HZ.out.2.2; simp [intOf]; omega
  ·have hlB : decide ((i : Int) < (d.ws.length : Int)) = false := decide_eq_false (by omega)
   have hlN : decide (i < d.ws.length) = false := decide_eq_false hl
   have hz : tolW d.ws n = 0 := tolW_none d.ws n (fun j rr hj => hno j rr (by have := (List.getElem?_eq_some_iff.1 hj).1; omega) hj)
   have HZ := Lib.hid (And.intro hz q)
   clear hno q hD1 hz
   go_wp2
   go_ret
   exact ⟨by rw [HZ.out.1]; rfl, qa.trans HZ.out.2⟩
set_option maxRecDepth 100000 in
set_option maxHeartbeats 2000000 in
theorem r11tabno_any (d : Dk) (b : Nat) (wv tv fv : Value) (w : World) (hR : RBt d b wv tv fv w) (hD : IsDk w wv tv fv d) (hwb : ∀ x ∈ d.ws, wareB x) (h8 : d.ws.length ≤ 8) (n : ByteArray) (r c : Int) (hidx : (indexW d.ws 0 n r c).isSome = false) :
  Calls Tryz.prog 24 #[.pointer (some ⟨b, 0, none⟩), .agg #[.string n, .int .i64 r, .int .i64 c]] w fun e w' => e = .returned (.tuple #[.pointer none, .bool false]) ∧ B w w' := by
 obtain ⟨gw, cw, gt, ct, ho, hwl, _⟩ := hR
 have hDw := hD
 have qa : B w (w.alloc (.cells #[.string n, .int .i64 r, .int .i64 c] 39)) := (B.refl _).alloc _ _
 have oW := obj_new w (.cells #[.string n, .int .i64 r, .int .i64 c] 39)
 obtain ⟨ao, ac, bo, bc, co, cc, rfl, rfl, rfl⟩ := hD.forms
 have hlen := hD.ws.len
 have cI1 : ∀ w', B (w.alloc (.cells #[.string n, .int .i64 r, .int .i64 c] 39)) w' → Calls Tryz.prog 55 #[.agg #[.slice ao d.ws.length ac, .slice bo d.ts.length bc, .slice co d.fs.length cc], .agg #[.string n, .int .i64 r, .int .i64 c]] w' fun e w'' => e = .returned (.tuple #[.int .i64 ((indexW d.ws 0 n r c).getD 0), .bool (indexW d.ws 0 n r c).isSome]) ∧ B w' w'' := fun w' q => (r8index_any _ _ _ d n r c w' (hD.keepB (qa.trans q)) hwb (by omega)).mono fun _ _ h => ⟨h.1, h.2.b⟩
 rw [hidx] at cI1
 have hb3 := obj_cell ho 3
 have k0 := obj_cell (qa.obj ho) 0
 have k1 := obj_cell (qa.obj ho) 1
 have k2 := obj_cell (qa.obj ho) 2
 have g0 := obj_cell oW 0
 have g1 := obj_cell oW 1
 have g2 := obj_cell oW 2
 have hnot : ∀ (x : Bool) (w : World), (Op.unary .not (.bool x)).run Tryz.prog w = .ok (.bool (!x)) w := fun _ _ => rfl
 clear ho oW hD
 go_enter Tryz.func24, Tryz.ntmps24
 go_wp2_with fail
 generalize w.alloc (.cells #[.string n, .int .i64 r, .int .i64 c] 39) = w1 at *
 generalize w.heap.size = Wb at *
 generalize (indexW d.ws 0 n r c).getD 0 = kk at *
 have cI := cI1
 clear cI1
 have qd : B w1 w1.drew := (B.refl _).drew
 refine wp_region_noPanic ?_
 refine wp_region_seq (S := fun w' => w'.cell? ⟨b, 0, none⟩ = some (.slice ao d.ws.length ac) ∧ w'.cell? ⟨b, 1, none⟩ = some (.slice bo d.ts.length bc) ∧ w'.cell? ⟨b, 2, none⟩ = some (.slice co d.fs.length cc) ∧ w'.cell? ⟨Wb, 0, none⟩ = some (.string n) ∧ w'.cell? ⟨Wb, 1, none⟩ = some (.int .i64 r) ∧ w'.cell? ⟨Wb, 2, none⟩ = some (.int .i64 c) ∧ B w1 w') [(0, 0), (1, 0), (2, 0), (3, 0), (4, 0), (5, 2), (6, 0), (7, 0), (8, 0), (9, 0), (10, 0)] [0, 1, 2, 4, 0, 24, 32, 64, 64, 255, 1023] [0, 1, 2, 4, 0, 24, 32, 64, 64, 128, 256] (by kernel_rfl) (by kernel_rfl) (fun _ _ _ _ _ h => h) ?_ (fun hH => ?_)
 ·exact ⟨qd.keep k0, qd.keep k1, qd.keep k2, qd.keep g0, qd.keep g1, qd.keep g2, qd⟩
 refine wpSeq_take (d := 10) rfl rfl (by kernel_rfl) (fun w hS => by go_simp <;> with_reducible rfl) ?_
 dsimp only [sZ, sS]
 refine wpSeq_take (d := 11) rfl rfl (by kernel_rfl) (fun w hS => by go_simp <;> with_reducible rfl) ?_
 dsimp only [sZ, sS]
 refine wpSeq_take (d := 12) rfl rfl (by kernel_rfl) (fun w hS => by go_simp <;> with_reducible rfl) ?_
 dsimp only [sZ, sS]
 refine wpSeq_take (d := 13) rfl rfl (by kernel_rfl) (fun w hS => by go_simp <;> with_reducible rfl) ?_
 dsimp only [sZ, sS]
 refine wpSeq_take (d := 14) rfl rfl (by kernel_rfl) (fun w hS => by go_simp <;> with_reducible rfl) ?_
 dsimp only [sZ, sS]
 refine wpSeq_call rfl (by kernel_rfl) (fun K hK => ?_)
 go_simp
 (with_reducible refine (cI _ hH.2.2.2.2.2.2).mono ?_)
 rintro e w' ⟨rfl, hq⟩
 refine hK.out _ _ ?_ (fun hH => ?_)
 ·exact ⟨hq.keep (hH.1), hq.keep (hH.2.1), hq.keep (hH.2.2.1), hq.keep (hH.2.2.2.1), hq.keep (hH.2.2.2.2.1), hq.keep (hH.2.2.2.2.2.1), (hH.2.2.2.2.2.2).trans hq⟩
 clear hK
 refine wpSeq_take (d := 9) rfl rfl (by kernel_rfl) (fun w hS => by go_simp <;> with_reducible rfl) ?_
 dsimp only [sZ, sS]
 refine wpSeq_take (d := 16) rfl rfl (by kernel_rfl) (fun w hS => by go_simp <;> with_reducible rfl) ?_
 dsimp only [sZ, sS]
 refine wpSeq_take (d := 17) rfl rfl (by kernel_rfl) (fun w hS => by go_simp <;> with_reducible rfl) ?_
 dsimp only [sZ, sS]
 refine wpSeq_take (d := 6) rfl rfl (by kernel_rfl) (fun w hS => by go_simp <;> with_reducible rfl) ?_
 dsimp only [sZ, sS]
 refine wpSeq_take (d := 7) rfl rfl (by kernel_rfl) (fun w hS => by go_simp <;> with_reducible rfl) ?_
 dsimp only [sZ, sS]
 refine wpSeq_done ?_
 refine NoPanic.normal ?_
 obtain ⟨w2, rfl⟩ : ∃ w2 : World, w2 = w' := ⟨_, rfl⟩
 have q12 : B w1 w2 := hH.2.2.2.2.2.2
 have HB2 := Lib.hid (qa.trans q12)
 clear hH cI k0 k1 k2 g1 g2 qd
 have HZ := Lib.hid HB2.out
 go_wp2
 go_ret2
 exact ⟨rfl, HZ.out⟩
set_option maxRecDepth 100000 in
set_option maxHeartbeats 2000000 in
theorem r11tab_any (d : Dk) (b : Nat) (wv tv fv : Value) (w : World) (hR : RBt d b wv tv fv w) (hD : IsDk w wv tv fv d) (hwb : ∀ x ∈ d.ws, wareB x) (h8 : d.ws.length ≤ 8) (n : ByteArray) (r c : Int) (hidx : (indexW d.ws 0 n r c).isSome = true) :
  Calls Tryz.prog 24 #[.pointer (some ⟨b, 0, none⟩), .agg #[.string n, .int .i64 r, .int .i64 c]] w fun e w' => ∃ (i : Nat) (rc : Wr) (p : Nat), d.ws[i]? = some rc ∧ rc.n = n ∧ e = .returned (.tuple #[.pointer (some ⟨p, 0, none⟩), .bool true]) ∧ RTab w (.pointer (some ⟨p, 0, none⟩)) (slAll rc.l) ∧ B w w' := by
 obtain ⟨gw, cw, gt, ct, ho, hwl, _⟩ := hR
 have hDw := hD
 have qa : B w (w.alloc (.cells #[.string n, .int .i64 r, .int .i64 c] 39)) := (B.refl _).alloc _ _
 have oW := obj_new w (.cells #[.string n, .int .i64 r, .int .i64 c] 39)
 obtain ⟨ao, ac, bo, bc, co, cc, rfl, rfl, rfl⟩ := hD.forms
 have hlen := hD.ws.len
 have cI1 : ∀ w', B (w.alloc (.cells #[.string n, .int .i64 r, .int .i64 c] 39)) w' → Calls Tryz.prog 55 #[.agg #[.slice ao d.ws.length ac, .slice bo d.ts.length bc, .slice co d.fs.length cc], .agg #[.string n, .int .i64 r, .int .i64 c]] w' fun e w'' => e = .returned (.tuple #[.int .i64 ((indexW d.ws 0 n r c).getD 0), .bool (indexW d.ws 0 n r c).isSome]) ∧ B w' w'' := fun w' q => (r8index_any _ _ _ d n r c w' (hD.keepB (qa.trans q)) hwb (by omega)).mono fun _ _ h => ⟨h.1, h.2.b⟩
 rw [hidx] at cI1
 have hb3 := obj_cell ho 3
 have k0 := obj_cell (qa.obj ho) 0
 have k1 := obj_cell (qa.obj ho) 1
 have k2 := obj_cell (qa.obj ho) 2
 have g0 := obj_cell oW 0
 have g1 := obj_cell oW 1
 have g2 := obj_cell oW 2
 have hnot : ∀ (x : Bool) (w : World), (Op.unary .not (.bool x)).run Tryz.prog w = .ok (.bool (!x)) w := fun _ _ => rfl
 clear ho oW hD
 go_enter Tryz.func24, Tryz.ntmps24
 go_wp2_with fail
 generalize w.alloc (.cells #[.string n, .int .i64 r, .int .i64 c] 39) = w1 at *
 generalize w.heap.size = Wb at *
 generalize (indexW d.ws 0 n r c).getD 0 = kk at *
 have cI := cI1
 clear cI1
 have qd : B w1 w1.drew := (B.refl _).drew
 refine wp_region_noPanic ?_
 refine wp_region_seq (S := fun w' => w'.cell? ⟨b, 0, none⟩ = some (.slice ao d.ws.length ac) ∧ w'.cell? ⟨b, 1, none⟩ = some (.slice bo d.ts.length bc) ∧ w'.cell? ⟨b, 2, none⟩ = some (.slice co d.fs.length cc) ∧ w'.cell? ⟨Wb, 0, none⟩ = some (.string n) ∧ w'.cell? ⟨Wb, 1, none⟩ = some (.int .i64 r) ∧ w'.cell? ⟨Wb, 2, none⟩ = some (.int .i64 c) ∧ B w1 w') [(0, 0), (1, 0), (2, 0), (3, 0), (4, 0), (5, 2), (6, 0), (7, 0), (8, 0), (9, 0), (10, 0)] [0, 1, 2, 4, 0, 24, 32, 64, 64, 255, 1023] [0, 1, 2, 4, 0, 24, 32, 64, 64, 128, 256] (by kernel_rfl) (by kernel_rfl) (fun _ _ _ _ _ h => h) ?_ (fun hH => ?_)
 ·exact ⟨qd.keep k0, qd.keep k1, qd.keep k2, qd.keep g0, qd.keep g1, qd.keep g2, qd⟩
 refine wpSeq_take (d := 10) rfl rfl (by kernel_rfl) (fun w hS => by go_simp <;> with_reducible rfl) ?_
 dsimp only [sZ, sS]
 refine wpSeq_take (d := 11) rfl rfl (by kernel_rfl) (fun w hS => by go_simp <;> with_reducible rfl) ?_
 dsimp only [sZ, sS]
 refine wpSeq_take (d := 12) rfl rfl (by kernel_rfl) (fun w hS => by go_simp <;> with_reducible rfl) ?_
 dsimp only [sZ, sS]
 refine wpSeq_take (d := 13) rfl rfl (by kernel_rfl) (fun w hS => by go_simp <;> with_reducible rfl) ?_
 dsimp only [sZ, sS]
 refine wpSeq_take (d := 14) rfl rfl (by kernel_rfl) (fun w hS => by go_simp <;> with_reducible rfl) ?_
 dsimp only [sZ, sS]
 refine wpSeq_call rfl (by kernel_rfl) (fun K hK => ?_)
 go_simp
 (with_reducible refine (cI _ hH.2.2.2.2.2.2).mono ?_)
 rintro e w' ⟨rfl, hq⟩
 refine hK.out _ _ ?_ (fun hH => ?_)
 ·exact ⟨hq.keep (hH.1), hq.keep (hH.2.1), hq.keep (hH.2.2.1), hq.keep (hH.2.2.2.1), hq.keep (hH.2.2.2.2.1), hq.keep (hH.2.2.2.2.2.1), (hH.2.2.2.2.2.2).trans hq⟩
 clear hK
 refine wpSeq_take (d := 9) rfl rfl (by kernel_rfl) (fun w hS => by go_simp <;> with_reducible rfl) ?_
 dsimp only [sZ, sS]
 refine wpSeq_take (d := 16) rfl rfl (by kernel_rfl) (fun w hS => by go_simp <;> with_reducible rfl) ?_
 dsimp only [sZ, sS]
 refine wpSeq_take (d := 17) rfl rfl (by kernel_rfl) (fun w hS => by go_simp <;> with_reducible rfl) ?_
 dsimp only [sZ, sS]
 refine wpSeq_take (d := 6) rfl rfl (by kernel_rfl) (fun w hS => by go_simp <;> with_reducible rfl) ?_
 dsimp only [sZ, sS]
 refine wpSeq_take (d := 7) rfl rfl (by kernel_rfl) (fun w hS => by go_simp <;> with_reducible rfl) ?_
 dsimp only [sZ, sS]
 refine wpSeq_done ?_
 refine NoPanic.normal ?_
 obtain ⟨w2, rfl⟩ : ∃ w2 : World, w2 = w' := ⟨_, rfl⟩
 have q12 : B w1 w2 := hH.2.2.2.2.2.2
 have HB2 := Lib.hid (qa.trans q12)
 have y0 := q12.keep k0
 replace g0 := q12.keep g0
 have y3 := hb3
 have qa' : B w w2 := HB2.out
 have hD1 := hDw.keepB qa'
 clear hH cI k0 k1 k2 g1 g2 qd
 go_wp2_with fail
 go_loopw [8] (fun iv wr => ∃ i : Nat, i ≤ d.ws.length ∧ iv = .int .i64 i ∧ (∀ j r, j < i → d.ws[j]? = some r → (r.n.toList == n.toList) = false) ∧ B w2 wr) (fun iv _ => d.ws.length + 1 - (intOf iv).toNat)
 case atStart => exact ⟨0, Nat.zero_le _, rfl, fun j r h => by omega, B.refl _⟩
 case round =>
  obtain ⟨i, hi, rfl, hno, q⟩ := hrel
  obtain ⟨wl, rfl⟩ : ∃ wl : World, wl = wr := ⟨_, rfl⟩
  replace y0 := q.keep y0
  replace g0 := q.keep g0
  by_cases hl : i < d.ws.length
  ·have hlB : decide ((i : Int) < (d.ws.length : Int)) = true := decide_eq_true (by omega)
   have hlN : decide (i < d.ws.length) = true := decide_eq_true hl
   have hlI : (i : Int) < (d.ws.length : Int) := by omega
   have hi0 : (0 : Int) ≤ (i : Int) := by omega
   have wk1 : IntKind.i64.wrap ((i : Int) + 1) = (i : Int) + 1 := by rw [IntKind.wrap_i64]; omega
   have hr : d.ws[i]? = some d.ws[i] := List.getElem?_eq_getElem hl
   obtain ⟨a, cap, e1, _, _, hrec⟩ := (hD1.ws.keepB q).at_ hl
   simp only [Value.slice.injEq, true_and] at e1
   obtain ⟨rfl, rfl⟩ := e1
   have t0 := hrec.n
   have tz := hrec.z
   generalize d.ws[i] = rr at *
   cases hb : (rr.n.toList == n.toList) with
   | true =>
    have hb' : (rr.n == n) = true := by rw [beq_ba]; exact hb
    obtain ⟨p, gg, e9, hc9, hT9⟩ := hwl i rr hr
    have y3' := (qa'.trans q).keep y3
    have hc9' := (qa'.trans q).keep hc9
    rw [e9] at y3'
    have HZ := Lib.hid (And.intro hr (And.intro (ba_eq (by simpa using hb)) (And.intro q hT9)))
    clear hno hrec hr q hD1 hT9 hc9 e9 tz
    go_wp2_with fail
    go_quiet (fail)
    go_wp2
    go_ret2
    exact ⟨i, rr, p, HZ.out.1, HZ.out.2.1, rfl, HZ.out.2.2.2, HB2.out.trans (HZ.out.2.2.1.drewN _)⟩
   | false =>
    have hb' : (rr.n == n) = false := by rw [beq_ba]; exact hb
    have hno' : ∀ j r', j < i + 1 → d.ws[j]? = some r' → (r'.n.toList == n.toList) = false := fun j r' hj hr' => by
     by_cases h : j = i
     ·subst h
      obtain rfl := Option.some.inj (hr.symm.trans hr')
      exact hb
     ·exact hno j r' (by omega) hr'
    have HZ := Lib.hid (And.intro hno' (And.intro q hl))
    clear hno hno' hrec hr q hD1 hl tz
    go_wp2_with fail
    go_quiet (fail)
    go_wp2
    go_roundw
    case rel => exact ⟨i + 1, by have := HZ.out.2.2; omega, by go_num, HZ.out.1, HZ.out.2.1.drewN _⟩
    case measure => have := HZ.out.2.2; simp [intOf]; omega
  ·have hlB : decide ((i : Int) < (d.ws.length : Int)) = false := decide_eq_false (by omega)
   have hlN : decide (i < d.ws.length) = false := decide_eq_false hl
   exfalso
   obtain ⟨rr, hrr, hn⟩ := indexW_named d.ws 0 n r c hidx
   obtain ⟨j, hj⟩ := List.getElem?_of_mem hrr
   rw [hno j rr (by have := (List.getElem?_eq_some_iff.1 hj).1; omega) hj] at hn
   cases hn
end Go.Proofs.YthlileddhgglnaaGreatDoor
