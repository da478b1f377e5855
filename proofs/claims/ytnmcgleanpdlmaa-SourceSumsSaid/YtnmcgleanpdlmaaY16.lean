/-
  The document's boards: New; Layer 14's boards: the program's and the document's of a deck of numbers; A box of five cells, written whole. No program is named here; Layer 14: bounds of numbers, a part's strokes, a tip's place; Layer 14: from where to where a transfer goes; how many strokes it makes; Layer 14: how many strokes a transfer makes; What lines of protocols tell. No program is named here; A step under way: its box, its wells in a row that the call owns.
-/
import Derived.Deep.QuietTactic
import Derived.BigQuiet
import Derived.Test.YtnmcgleanpdlmaaChecked
import Derived.Lib.MinMax
import Derived.Shelf.Abstract
import Derived.KernelRfl
import Derived.Laws.Strings2
import Derived.Laws.Slices
import Derived.Test.YtnmcgleanpdlmaaY1
import Derived.Test.YtnmcgleanpdlmaaY2
import Derived.Test.YtnmcgleanpdlmaaY3
import Derived.Test.YtnmcgleanpdlmaaY4
import Derived.Test.YtnmcgleanpdlmaaY5
import Derived.Test.YtnmcgleanpdlmaaY6
import Derived.Test.YtnmcgleanpdlmaaY7
import Derived.Test.YtnmcgleanpdlmaaY8
import Derived.Test.YtnmcgleanpdlmaaY9
import Derived.Test.YtnmcgleanpdlmaaY10
import Derived.Test.YtnmcgleanpdlmaaY11
import Derived.Test.YtnmcgleanpdlmaaY12
import Derived.Test.YtnmcgleanpdlmaaY13
import Derived.Test.YtnmcgleanpdlmaaY14
import Derived.Test.YtnmcgleanpdlmaaY15
namespace Go.Proofs.Ytnmcgleanpdlmaa
open Go.RowKit
set_option linter.unusedVariables false
set_option maxRecDepth 100000 in
set_option maxHeartbeats 4000000 in
theorem r11new_any (wv tv fv : Value) (d : Dk) (w : World) (h : IsDk w wv tv fv d) (hr : rightD d = true) : Calls Try.prog 21 #[.agg #[wv, tv, fv]] w fun e w' => ∃ b, e = .returned (.tuple #[.pointer (some ⟨b, 0, none⟩), .int .i64 0]) ∧ Held (RBt d b wv tv fv) w.heap.size w'.heap.size w' ∧ B w w' := by
  obtain ⟨p8, p4, pW, pT⟩ := right_parts9 hr
  have hWr : ∀ r ∈ d.ws, rightS r.l = true := fun r hm => by
    obtain ⟨i, hi⟩ := List.getElem?_of_mem hm
    exact wareOk_right (apart_at pW hi).1
  have hTr : ∀ r ∈ d.ts, rightS r.l = true := fun r hm => by
    obtain ⟨i, hi⟩ := List.getElem?_of_mem hm
    exact tipOk_right (apart_at pT hi).1
  obtain ⟨ao, ac, bo, bc, co, cc, rfl, rfl, rfl⟩ := h.forms
  have q0 : B w (w.alloc (.cells #[.slice ao d.ws.length ac, .slice bo d.ts.length bc, .slice co d.fs.length cc] 39)) := (B.refl w).alloc _ _
  have oD := obj_new w (.cells #[.slice ao d.ws.length ac, .slice bo d.ts.length bc, .slice co d.fs.length cc] 39)
  have cR := r8deckright_any _ _ _ d _ (h.keepB q0)
  rw [hr] at cR
  have hnot : ∀ (x : Bool) (w : World), (Op.unary .not (.bool x)).run Try.prog w = .ok (.bool (!x)) w := fun _ _ => rfl
  go_enter Try.func21, Try.ntmps21
  go_wp2_with fail
  generalize w.alloc (.cells #[.slice ao d.ws.length ac, .slice bo d.ts.length bc, .slice co d.fs.length cc] 39) = w0 at *
  refine cR.mono ?_
  rintro e w1 ⟨rfl, q1⟩
  have oDa := q1.obj oD
  have k0 := obj_cell oDa 0
  have k1' := obj_cell oDa 1
  have k2' := obj_cell oDa 2
  have qb : B w1 (w1.alloc (.cells #[.slice ao d.ws.length ac, .slice bo d.ts.length bc, .slice co d.fs.length cc, .slice none 0 0, .slice none 0 0] 42)) := (B.refl _).alloc _ _
  have oB1 := obj_new w1 (.cells #[.slice ao d.ws.length ac, .slice bo d.ts.length bc, .slice co d.fs.length cc, .slice none 0 0, .slice none 0 0] 42)
  have oD1 := qb.obj oDa
  have b1 := (q0.trans q1).trans qb
  have hwb : w.heap.size ≤ w1.heap.size := (q0.trans q1).below.size
  have hDb := obj_lt oDa
  clear cR q0 q1 oD qb oDa
  go_wp2_with fail
  generalize w1.alloc (.cells #[.slice ao d.ws.length ac, .slice bo d.ts.length bc, .slice co d.fs.length cc, .slice none 0 0, .slice none 0 0] 42) = W1 at *
  generalize w1.heap.size = b at *
  generalize hDbe : w.heap.size = Db at *
  obtain ⟨k1, hk1⟩ : ∃ k, W1.heap.size = k := ⟨_, rfl⟩
  have hbk := obj_lt oB1
  clear k0 k1' k2'
  go_loopw [5] (fun iv wr => ∃ (i : Nat) (sv : Value) (ps : List Value), i ≤ d.ws.length ∧ iv = .int .i64 i ∧ RbL d.ws k1 b wr sv ps i ∧ wr.heap[b]? = some (.cells #[.slice ao d.ws.length ac, .slice bo d.ts.length bc, .slice co d.fs.length cc, sv, .slice none 0 0] 42 (0, 0)) ∧ G (fun k => k = b) W1 wr) (fun iv _ => d.ws.length + 1 - (intOf iv).toNat)
  case atStart => exact ⟨0, .slice none 0 0, [], Nat.zero_le _, rfl, RbL.start _ _ _ _, oB1, G.refl _ _⟩
  case round =>
    obtain ⟨i, sv, ps, hi, rfl, hL, oBl, hg⟩ := hrel
    obtain ⟨wl, rfl⟩ : ∃ wl : World, wl = wr := ⟨_, rfl⟩
    obtain ⟨so, sc, rfl⟩ := ownsRow_form hL.row
    have oDl := hg.obj (by show ¬ Db = b; omega) oD1
    have d0 := obj_cell oDl 0
    have bl := hg.b b1 (fun i hi => by subst hi; rw [hDbe]; exact hwb)
    by_cases hl : i < d.ws.length
    · have hlB : decide ((i : Int) < (d.ws.length : Int)) = true := decide_eq_true (by omega)
      have hlN : decide (i < d.ws.length) = true := decide_eq_true hl
      have hi0 : (0 : Int) ≤ (i : Int) := by omega
      have hiI : (i : Int) < (d.ws.length : Int) := by omega
      have wk1 : IntKind.i64.wrap ((i : Int) + 1) = (i : Int) + 1 := by rw [IntKind.wrap_i64]; omega
      obtain ⟨xa, xc, hxa, _, _, hrec⟩ := h.ws.at_ hl
      simp only [Value.slice.injEq, true_and] at hxa
      obtain ⟨rfl, rfl⟩ := hxa
      have hr : d.ws[i]? = some d.ws[i] := List.getElem?_eq_getElem hl
      have hok := hWr _ (List.mem_of_getElem? hr)
      generalize d.ws[i] = r at *
      obtain ⟨v, g4, hsv⟩ := hrec.l
      obtain ⟨vo, vn, vc, rfl⟩ := hsv.form
      replace g4 := bl.keep g4
      have cO := r3of_held _ r.l wl (hsv.keepB bl)
      have HL := Lib.hid (And.intro hL (And.intro oBl (And.intro hg (And.intro hr (And.intro hl hok)))))
      clear hL oBl hg hr hl hrec hsv
      go_wp2_with fail
      refine cO.mono ?_
      rintro e wt (⟨_, p0, rfl, ht, qt⟩ | ⟨h0, _⟩)
      · obtain ⟨p, _, _, _, _, rfl, _⟩ := ht.now
        obtain ⟨hL, oBl, hg, hr, hl, _⟩ := HL.out
        have oBt := qt.obj oBl
        have y3 := obj_cell oBt 3
        have qa : B wt (wt.alloc (.cells #[.pointer (some ⟨p, 0, none⟩)] 126)) := (B.refl _).alloc _ _
        have hownA := own_keepBx (own_keepBx hL.row qt) qa
        have oBa := qa.obj oBt
        have hbA : k1 ≤ (wt.alloc (.cells #[.pointer (some ⟨p, 0, none⟩)] 126)).heap.size := by have h1 := hg.size; have h2 := qt.below.size; have h3 := qa.below.size; omega
        have hfar := farF2 oBa hownA (by decide)
        obtain ⟨i0, hi0', hz0, hz1, hz2⟩ := info_of ptInfo
        have hl1 : i + 1 ≤ maxLen := by unfold maxLen; omega
        have hl2 : (i + 1) * 8 ≤ 140737488355328 := by omega
        have HA := Lib.hid (And.intro oBa (And.intro qa (And.intro qt (And.intro ht hownA))))
        clear hL oBl hg hr hl oBt qa ht qt cO bl
        go_wp2_with (at_builtin; refine wpList_append_lies _ rfl _ _ 40 rfl k1 126 i0 (.pointer none) 1 8 Try.underlying40 hi0' hz0 hz1 hz2 rfl (by omega) _ i ps rfl hownA ⟨wt.heap.size, 0, none⟩ 1 1 [.pointer (some ⟨p, 0, none⟩)] rfl rfl (news_plain rfl) (by simp [Value.oneCell']) (by omega) hl1 hl2 hbA _ rfl ?_; intro gN cN w9 hownN hgrowN hatN hltN; have oB9 := obj_grown hgrowN oBa hfar; have y9 := obj_cell oB9 3; have z9 := obj_free oB9 3)
        obtain ⟨hL, oBl, hg, hr, hl, _⟩ := HL.out
        obtain ⟨_, qa, qt, ht, _⟩ := HA.out
        have hM := hL.more hr (obj_lt oBl) qt ht qa hownN hgrowN hatN
        have gp : G (fun k => k = b) w9 (w9.setCell ⟨b, 3, none⟩ (.slice (some ⟨gN, 0, none⟩) (i + 1) cN)) := one_own _ _ _ _
        have hM2 := hM.put oB9 (by decide) gp
        have oB10 : (w9.setCell ⟨b, 3, none⟩ (.slice (some ⟨gN, 0, none⟩) (i + 1) cN)).heap[b]? = some (.cells #[.slice (some xa) d.ws.length ac, .slice bo d.ts.length bc, .slice co d.fs.length cc, (.slice (some ⟨gN, 0, none⟩) (i + 1) cN), .slice none 0 0] 42 (0, 0)) := by simpa using obj_set oB9 3 (.slice (some ⟨gN, 0, none⟩) (i + 1) cN)
        have hg10 : G (fun k => k = b) W1 (w9.setCell ⟨b, 3, none⟩ (.slice (some ⟨gN, 0, none⟩) (i + 1) cN)) := (((hg.trans (qt.g _)).trans (qa.g _)).grown hgrowN (fun k hk => .inr (by have := (hL.row.lt k hk).1; rw [hk1]; exact this))).trans gp
        have HZ := Lib.hid (And.intro hM2 (And.intro oB10 (And.intro hg10 hl)))
        clear hM hM2 oB10 hg10 gp hL oBl hg hr hl qa qt ht hownN hgrowN hatN hltN oB9 y9 z9 HL HA hownA
        go_roundw
        case rel => exact ⟨i + 1, _, _, by have := HZ.out.2.2.2; omega, by go_num, HZ.out.1, HZ.out.2.1, HZ.out.2.2.1⟩
        case measure => have := HZ.out.2.2.2; simp [intOf]; omega
      · have := HL.out.2.2.2.2.2
        rw [this] at h0
        cases h0
    · have hlB : decide ((i : Int) < (d.ws.length : Int)) = false := decide_eq_false (by omega)
      have hlN : decide (i < d.ws.length) = false := decide_eq_false hl
      obtain rfl : i = d.ws.length := by omega
      obtain ⟨W2, rfl⟩ : ∃ W2 : World, W2 = wl := ⟨_, rfl⟩
      have oD2 := oDl
      have oB2 := oBl
      have b2 := bl
      have hL1 := hL
      obtain ⟨uo, rfl⟩ : ∃ o, o = so := ⟨_, rfl⟩
      obtain ⟨uc, rfl⟩ : ∃ o, o = sc := ⟨_, rfl⟩
      obtain ⟨ps1, rfl⟩ : ∃ o, o = ps := ⟨_, rfl⟩
      obtain ⟨k2, hk2⟩ : ∃ k, W2.heap.size = k := ⟨_, rfl⟩
      have hk12 : k1 ≤ k2 := by have := hg.size; omega
      have H1 := Lib.hid (And.intro hL1 oBl)
      clear hL oDl oBl bl hg hL1
      have d1 := obj_cell oD2 1
      go_wp2_with fail
      clear hlB hlN hl hi d0
      go_loopw [8] (fun iv wr => ∃ (i : Nat) (sv : Value) (ps : List Value), i ≤ d.ts.length ∧ iv = .int .i64 i ∧ RbL d.ts k2 b wr sv ps i ∧ wr.heap[b]? = some (.cells #[.slice ao d.ws.length ac, .slice bo d.ts.length bc, .slice co d.fs.length cc, .slice uo d.ws.length uc, sv] 42 (0, 0)) ∧ G (fun k => k = b) W2 wr) (fun iv _ => d.ts.length + 1 - (intOf iv).toNat)
      case atStart => exact ⟨0, .slice none 0 0, [], Nat.zero_le _, rfl, RbL.start _ _ _ _, oB2, G.refl _ _⟩
      case round =>
        obtain ⟨i, sv, ps, hi, rfl, hL, oBl, hg⟩ := hrel
        obtain ⟨wl, rfl⟩ : ∃ wl : World, wl = wr := ⟨_, rfl⟩
        obtain ⟨so, sc, rfl⟩ := ownsRow_form hL.row
        have oDl := hg.obj (by show ¬ Db = b; omega) oD2
        have d0 := obj_cell oDl 1
        have bl := hg.b b2 (fun i hi => by subst hi; rw [hDbe]; exact hwb)
        by_cases hl : i < d.ts.length
        · have hlB : decide ((i : Int) < (d.ts.length : Int)) = true := decide_eq_true (by omega)
          have hlN : decide (i < d.ts.length) = true := decide_eq_true hl
          have hi0 : (0 : Int) ≤ (i : Int) := by omega
          have hiI : (i : Int) < (d.ts.length : Int) := by omega
          have wk1 : IntKind.i64.wrap ((i : Int) + 1) = (i : Int) + 1 := by rw [IntKind.wrap_i64]; omega
          obtain ⟨xa, xc, hxa, _, _, hrec⟩ := h.ts.at_ hl
          simp only [Value.slice.injEq, true_and] at hxa
          obtain ⟨rfl, rfl⟩ := hxa
          have hr : d.ts[i]? = some d.ts[i] := List.getElem?_eq_getElem hl
          have hok := hTr _ (List.mem_of_getElem? hr)
          generalize d.ts[i] = r at *
          obtain ⟨v, g4, hsv⟩ := hrec.l
          obtain ⟨vo, vn, vc, rfl⟩ := hsv.form
          replace g4 := bl.keep g4
          have cO := r3of_held _ r.l wl (hsv.keepB bl)
          have HL := Lib.hid (And.intro hL (And.intro oBl (And.intro hg (And.intro hr (And.intro hl hok)))))
          clear hL oBl hg hr hl hrec hsv
          go_wp2_with fail
          refine cO.mono ?_
          rintro e wt (⟨_, p0, rfl, ht, qt⟩ | ⟨h0, _⟩)
          · obtain ⟨p, _, _, _, _, rfl, _⟩ := ht.now
            obtain ⟨hL, oBl, hg, hr, hl, _⟩ := HL.out
            have oBt := qt.obj oBl
            have y3 := obj_cell oBt 4
            have qa : B wt (wt.alloc (.cells #[.pointer (some ⟨p, 0, none⟩)] 126)) := (B.refl _).alloc _ _
            have hownA := own_keepBx (own_keepBx hL.row qt) qa
            have oBa := qa.obj oBt
            have hbA : k2 ≤ (wt.alloc (.cells #[.pointer (some ⟨p, 0, none⟩)] 126)).heap.size := by have h1 := hg.size; have h2 := qt.below.size; have h3 := qa.below.size; omega
            have hfar := farF2 oBa hownA (by decide)
            obtain ⟨i0, hi0', hz0, hz1, hz2⟩ := info_of ptInfo
            have hl1 : i + 1 ≤ maxLen := by unfold maxLen; omega
            have hl2 : (i + 1) * 8 ≤ 140737488355328 := by omega
            have HA := Lib.hid (And.intro oBa (And.intro qa (And.intro qt (And.intro ht hownA))))
            clear hL oBl hg hr hl oBt qa ht qt cO bl
            go_wp2_with (at_builtin; refine wpList_append_lies _ rfl _ _ 40 rfl k2 126 i0 (.pointer none) 1 8 Try.underlying40 hi0' hz0 hz1 hz2 rfl (by omega) _ i ps rfl hownA ⟨wt.heap.size, 0, none⟩ 1 1 [.pointer (some ⟨p, 0, none⟩)] rfl rfl (news_plain rfl) (by simp [Value.oneCell']) (by omega) hl1 hl2 hbA _ rfl ?_; intro gN cN w9 hownN hgrowN hatN hltN; have oB9 := obj_grown hgrowN oBa hfar; have y9 := obj_cell oB9 4; have z9 := obj_free oB9 4)
            obtain ⟨hL, oBl, hg, hr, hl, _⟩ := HL.out
            obtain ⟨_, qa, qt, ht, _⟩ := HA.out
            have hM := hL.more hr (obj_lt oBl) qt ht qa hownN hgrowN hatN
            have gp : G (fun k => k = b) w9 (w9.setCell ⟨b, 4, none⟩ (.slice (some ⟨gN, 0, none⟩) (i + 1) cN)) := one_own _ _ _ _
            have hM2 := hM.put oB9 (by decide) gp
            have oB10 : (w9.setCell ⟨b, 4, none⟩ (.slice (some ⟨gN, 0, none⟩) (i + 1) cN)).heap[b]? = some (.cells #[.slice ao d.ws.length ac, .slice (some xa) d.ts.length bc, .slice co d.fs.length cc, .slice uo d.ws.length uc, (.slice (some ⟨gN, 0, none⟩) (i + 1) cN)] 42 (0, 0)) := by simpa using obj_set oB9 4 (.slice (some ⟨gN, 0, none⟩) (i + 1) cN)
            have hg10 : G (fun k => k = b) W2 (w9.setCell ⟨b, 4, none⟩ (.slice (some ⟨gN, 0, none⟩) (i + 1) cN)) := (((hg.trans (qt.g _)).trans (qa.g _)).grown hgrowN (fun k hk => .inr (by have := (hL.row.lt k hk).1; rw [hk2]; exact this))).trans gp
            have HZ := Lib.hid (And.intro hM2 (And.intro oB10 (And.intro hg10 hl)))
            clear hM hM2 oB10 hg10 gp hL oBl hg hr hl qa qt ht hownN hgrowN hatN hltN oB9 y9 z9 HL HA hownA
            go_roundw
            case rel => exact ⟨i + 1, _, _, by have := HZ.out.2.2.2; omega, by go_num, HZ.out.1, HZ.out.2.1, HZ.out.2.2.1⟩
            case measure => have := HZ.out.2.2.2; simp [intOf]; omega
          · have := HL.out.2.2.2.2.2
            rw [this] at h0
            cases h0
        · have hlB : decide ((i : Int) < (d.ts.length : Int)) = false := decide_eq_false (by omega)
          have hlN : decide (i < d.ts.length) = false := decide_eq_false hl
          obtain rfl : i = d.ts.length := by omega
          obtain ⟨hL1, _⟩ := H1.out
          have hL1w := hL1.put oB2 (by decide) hg
          have hbl := obj_lt oBl
          have hRB : Held (RBt d b (.slice ao d.ws.length ac) (.slice bo d.ts.length bc) (.slice co d.fs.length cc)) b wl.heap.size wl := ⟨⟨_, _, _, _, oBl, hL1w.cells rfl, hL.cells rfl⟩, Nat.le_refl _, fun w' hb => ⟨_, _, _, _, (hb b (Nat.le_refl _) hbl).trans oBl, hL1w.cellsAt rfl hb (by omega), hL.cellsAt rfl hb (by omega)⟩⟩
          have HZ := Lib.hid (And.intro (hRB.wide hwb (Nat.le_refl _) (Nat.le_refl _)) bl)
          clear hRB hL hL1 hL1w oBl hg bl oDl
          go_wp2
          go_ret2
          exact ⟨b, rfl, by rw [hDbe]; exact HZ.out.1, HZ.out.2⟩
end Go.Proofs.Ytnmcgleanpdlmaa

namespace Go.Proofs.Ytnmcgleanpdlmaa
open Go.RowKit
set_option linter.unusedVariables false
def Brd (d : Dk) (w0 w' : World) (e : Ending) : Prop := ∃ (P : Bp) (X : List Th) (b : Nat) (wv tv fv : Value), e = .returned (.tuple #[.pointer (some ⟨P.b, 0, none⟩), .pointer (some ⟨b, 0, none⟩), .bool true]) ∧ P.d = d ∧ BoardM P w' 0 [] X ∧ IsDk w' wv tv fv d ∧ RBt d b wv tv fv w' ∧ B w0 w'
set_option maxRecDepth 100000 in
set_option maxHeartbeats 2000000 in
theorem boards14_any (a b c d : Int) (lv : Value) (ll : List Nat) (h20 : ll.length ≤ 20) (ha : 0 ≤ a ∧ a ≤ 255) (hb : 0 ≤ b ∧ b ≤ 255) (hc : 0 ≤ c ∧ c ≤ 255) (hd : 0 ≤ d ∧ d ≤ 255) (w : World) (hU : IsU32s w lv ll) :
    Calls Try.prog 8 #[.int .u8 a, .int .u8 b, .int .u8 c, .int .u8 d, lv] w fun e w' => Brd (seatD a b c d ll) w w' e := by
  have cD := deck_any a b c d lv ll h20 ha hb hc hd w hU
  have hR := seat_right ha hb hc hd ll
  have hF : (seatD a b c d ll).fs.length < 1000 := by have := fillsF_len (wares7 a b c d) ll 0; show (fillsF _ _ _).length < 1000; omega
  obtain ⟨ao, cap, rfl, hlm, _⟩ := hU
  obtain ⟨ln, hln⟩ : ∃ ln, ll.length = ln := ⟨_, rfl⟩
  rw [hln] at cD ⊢
  generalize seatD a b c d ll = D at *
  clear ha hb hc hd hlm hln h20
  go_enter Try.func8, Try.ntmps8
  go_wp2_with fail
  refine cD.mono ?_
  rintro e w1 ⟨wv, tv, fv, rfl, hD, q1⟩
  obtain ⟨a1, c1, a2, c2, a3, c3, rfl, rfl, rfl⟩ := hD.forms
  have q2 : B w1 (w1.alloc (.cells #[.slice a1 D.ws.length c1, .slice a2 D.ts.length c2, .slice a3 D.fs.length c3] 39)) := (B.refl w1).alloc _ _
  have oD := obj_new w1 (.cells #[.slice a1 D.ws.length c1, .slice a2 D.ts.length c2, .slice a3 D.fs.length c3] 39)
  have hD2 := hD.keepB q2
  have hDF := fun w' (q : B (w1.alloc (.cells #[.slice a1 D.ws.length c1, .slice a2 D.ts.length c2, .slice a3 D.fs.length c3] 39)) w') => And.intro (hD2.keepB q) (q.obj oD)
  have cN := dnew_right _ _ _ D _ hD2 hR hF
  have cR := fun w' (q : B (w1.alloc (.cells #[.slice a1 D.ws.length c1, .slice a2 D.ts.length c2, .slice a3 D.fs.length c3] 39)) w') => r11new_any _ _ _ D w' (hD2.keepB q) hR
  have k0 := obj_cell oD 0
  have k1 := obj_cell oD 1
  have k2 := obj_cell oD 2
  have q12 := q1.trans q2
  have HD := Lib.hid hDF
  clear hD hD2 hDF q1 q2 oD cD
  generalize hn1 : D.ws.length = n1 at *
  generalize hn2 : D.ts.length = n2 at *
  generalize hn3 : D.fs.length = n3 at *
  clear hn1 hn2 hn3
  go_wp2_with fail
  generalize w1.alloc (.cells #[.slice a1 n1 c1, .slice a2 n2 c2, .slice a3 n3 c3] 39) = w2 at *
  generalize w1.heap.size = DB at *
  refine cN.mono ?_
  rintro e w3 ⟨P, X, rfl, hPd, hM, hlo, _, q3⟩
  obtain ⟨_, oD3⟩ := HD.out _ q3
  have j0 := obj_cell oD3 0
  have j1 := obj_cell oD3 1
  have j2 := obj_cell oD3 2
  have cR3 := cR _ q3
  have HM := Lib.hid (And.intro hPd (And.intro hM (And.intro (q12.trans q3) q3)))
  clear cN cR oD3 hPd hM hlo k0 k1 k2 q12
  go_wp2_with fail
  refine cR3.mono ?_
  rintro e w4 ⟨rb, rfl, hH, q4⟩
  have HF := Lib.hid (And.intro hH.now q4)
  clear cR3 hH q4
  go_wp2_with fail
  try simp only [Exit.inBlock, Exit.then]
  go_ret3
  exact ⟨P, X, rb, _, _, _, rfl, HM.out.1, HM.out.2.1.keepB HF.out.2, (HD.out _ (HM.out.2.2.2.trans HF.out.2)).1, HF.out.1, HM.out.2.2.1.trans HF.out.2⟩
end Go.Proofs.Ytnmcgleanpdlmaa

namespace Go.Proofs.Ytnmcgleanpdlmaa
open Go.RowKit
theorem obj_five {w : World} {b : Nat} {a0 a1 a2 a3 a4 : Value} {t : TypeId} (h : w.heap[b]? = some (.cells #[a0, a1, a2, a3, a4] t (0, 0))) (x0 x1 x2 x3 x4 : Value) :
    (((((w.setCell ⟨b, 0, none⟩ x0).setCell ⟨b, 1, none⟩ x1).setCell ⟨b, 2, none⟩ x2).setCell ⟨b, 3, none⟩ x3).setCell ⟨b, 4, none⟩ x4).heap[b]? = some (.cells #[x0, x1, x2, x3, x4] t (0, 0)) := by
  have := obj_set (obj_set (obj_set (obj_set (obj_set h 0 x0) 1 x1) 2 x2) 3 x3) 4 x4
  simpa using this
theorem b_five {u w : World} (h : B u w) {b : Nat} (hb : u.heap.size ≤ b) (x0 x1 x2 x3 x4 : Value) :
    B u (((((w.setCell ⟨b, 0, none⟩ x0).setCell ⟨b, 1, none⟩ x1).setCell ⟨b, 2, none⟩ x2).setCell ⟨b, 3, none⟩ x3).setCell ⟨b, 4, none⟩ x4) :=
  B.setCell (p := ⟨b, 4, none⟩) (B.setCell (p := ⟨b, 3, none⟩) (B.setCell (p := ⟨b, 2, none⟩) (B.setCell (p := ⟨b, 1, none⟩) (B.setCell (p := ⟨b, 0, none⟩) h hb _) hb _) hb _) hb _) hb _
end Go.Proofs.Ytnmcgleanpdlmaa

namespace Go.Proofs.Ytnmcgleanpdlmaa
open Go.RowKit
set_option linter.unusedVariables false
theorem swithin_any (v a b : Int) (w : World) : Calls Try.prog 43 #[.int .i64 v, .int .i64 a, .int .i64 b] w fun x w' => x = .returned (.bool (inB v a b)) ∧ w = w' := by
  unfold inB
  cases k1 : decide (a ≤ v)
  · go_enter Try.func43, Try.ntmps43
    go_wp2
    go_ret
    exact ⟨by simp [*], rfl⟩
  · cases k2 : decide (v ≤ b)
    all_goals
      go_enter Try.func43, Try.ntmps43
      go_wp2
      go_ret
      exact ⟨by simp [*], rfl⟩
theorem pieces_any (p : Int) (w : World) : Calls Try.prog 46 #[.int .i64 p] w fun x w' => x = .returned (.int .i64 (pcsX p)) ∧ w = w' := by
  obtain ⟨m, hm⟩ : ∃ m, min p 4 = m := ⟨_, rfl⟩
  have he := Lib.hid (show pcsX p = m from hm)
  go_enter Try.func46, Try.ntmps46
  go_wp2
  go_ret
  exact ⟨by rw [he.out]; rfl, rfl⟩
theorem tipIx_some {L : List Rec} {n : ByteArray} {i : Nat} (hi : i < L.length) (h : ((L[i]).n.toList == n.toList) = true) (h0 : ∀ j (hj : j < L.length), j < i → ((L[j]).n.toList == n.toList) = false) : tipIx L n = some i := by
  unfold tipIx
  rw [List.findIdx?_eq_some_iff_getElem]
  exact ⟨hi, h, fun j hj => by simp [h0 j (by omega) hj]⟩
theorem tipIx_none {L : List Rec} {n : ByteArray} (h0 : ∀ j (hj : j < L.length), ((L[j]).n.toList == n.toList) = false) : tipIx L n = none := by
  unfold tipIx
  rw [List.findIdx?_eq_none_iff]
  intro x hx
  obtain ⟨j, hj, rfl⟩ := List.getElem_of_mem hx
  exact h0 j hj
theorem tipIx_lt {L : List Rec} {n : ByteArray} {i : Nat} (h : tipIx L n = some i) : i < L.length := by
  unfold tipIx at h
  rw [List.findIdx?_eq_some_iff_getElem] at h
  exact h.1
set_option maxRecDepth 100000 in
set_option maxHeartbeats 1600000 in
theorem stipf_any (n m : ByteArray) (x y z : Int) (o : Option Addr) (k c bn : Nat) (w : World) (hn : w.cell? ⟨bn, 7, none⟩ = some (.string n)) :
    Calls Try.prog 45 #[.agg #[.string m, .int .i64 x, .int .i64 y, .int .i64 z, .slice o k c], .pointer (some ⟨bn, 0, none⟩)] w fun e w' => e = .returned (.bool (m.toList == n.toList)) ∧ B w w' := by
  have q : B w (w.alloc (.cells #[.string m, .int .i64 x, .int .i64 y, .int .i64 z, .slice o k c] 59)) := (B.refl w).alloc _ _
  have k1 := q.keep hn
  have hQ := Lib.hid q
  clear q hn
  cases hb : (m.toList == n.toList)
  all_goals
    go_enter Try.func45, Try.ntmps45
    go_wp2
    go_ret
    exact ⟨rfl, hQ.out⟩
theorem stipf_enters : ∀ args w, (callFunc 45 args).run Try.prog w = .ok (.enter 45 args) w := enters_of Try.func45 (by kernel_rfl) rfl
/-- A place as the search tells it. -/
def ixV (x : Option Nat) : Int := match x with
  | some i => (i : Int)
  | none => -1
set_option maxRecDepth 100000 in
set_option maxHeartbeats 1600000 in
theorem stipix_any (tv : Value) (L : List Rec) (n : ByteArray) (bn : Nat) (w : World) (h : IsRecs w tv L) (hn : w.cell? ⟨bn, 7, none⟩ = some (.string n)) :
    Calls Try.prog 44 #[tv, .func (.func 45) #[] #[.pointer (some ⟨bn, 0, none⟩)]] w fun e w' => e = .returned (.int .i64 (ixV (tipIx L n))) ∧ B w w' := by
  obtain ⟨ao, ac, rfl⟩ := h.form
  have hlen := h.len
  have HI := Lib.hid h
  obtain ⟨n0, hn0⟩ : ∃ n0, L.length = n0 := ⟨_, rfl⟩
  rw [hn0] at hlen ⊢
  have HN := Lib.hid hn0
  clear h hn0
  go_enter Try.func44, Try.ntmps44
  go_wp2_with fail
  go_loopw [8] (fun iv wr => ∃ i : Nat, i ≤ n0 ∧ iv = .int .i64 i ∧ (∀ j (hj : j < L.length), j < i → ((L[j]).n.toList == n.toList) = false) ∧ B w wr) (fun iv _ => n0 + 1 - (intOf iv).toNat)
  case atStart => exact ⟨0, Nat.zero_le _, rfl, fun j _ hj => by omega, B.refl _⟩
  case round =>
    obtain ⟨i, hi, rfl, hall, q⟩ := hrel
    obtain ⟨wo, rfl⟩ : ∃ wo : World, wo = wr := ⟨_, rfl⟩
    by_cases hl : i < n0
    · have hlB : decide ((i : Int) < (n0 : Int)) = true := decide_eq_true (by omega)
      have hlN : decide (i < n0) = true := decide_eq_true hl
      have hlI : (i : Int) < (n0 : Int) := by omega
      have hi0 : (0 : Int) ≤ (i : Int) := by omega
      have wk1 : IntKind.i64.wrap ((i : Int) + 1) = (i : Int) + 1 := by rw [IntKind.wrap_i64]; omega
      have hl' : i < L.length := by rw [HN.out]; exact hl
      obtain ⟨a, cap, e1, _, _, hr⟩ := (HI.out.keepB q).at_ hl'
      rw [HN.out] at e1
      obtain ⟨rfl, rfl⟩ : ao = some a ∧ ac = cap := by simpa using e1
      obtain ⟨rc, hrc⟩ : ∃ rc, L[i] = rc := ⟨_, rfl⟩
      rw [hrc] at hr
      obtain ⟨m, x, y, z, sl⟩ := rc
      obtain ⟨k1, k2, k3, k4, sv, k5, k6⟩ := hr
      obtain ⟨so, sn, sc, rfl⟩ := k6.form
      simp only at k1 k2 k3 k4
      have cF := stipf_any n m x y z so sn sc bn wo (q.keep hn)
      have hgo : (L[i]).n = m := by rw [hrc]
      have HA : Hid ((m.toList == n.toList) = false → ∀ j (hj : j < L.length), j < i + 1 → ((L[j]).n.toList == n.toList) = false) := Lib.hid fun h0 j hj hj2 => by
        by_cases c : j = i
        · subst c; rw [hgo]; exact h0
        · exact hall j hj (by omega)
      have HY : Hid ((m.toList == n.toList) = true → tipIx L n = some i) := Lib.hid fun h0 => tipIx_some hl' (by rw [hgo]; exact h0) hall
      have HX := Lib.hid (And.intro hl q)
      have eg := stipf_enters
      clear hall hl q hgo hrc k6 e1 hi hn HI
      cases hb : (m.toList == n.toList)
      · rw [hb] at cF
        have HB := Lib.hid (HA.out hb)
        clear hb HA HY hl'
        go_wp2_with (go_at_fn 45; refine cF.mono ?_; rintro e w' ⟨rfl, q2⟩)
        have q3 := HX.out.2.trans ‹B wo _›
        go_roundw
        case rel => exact ⟨i + 1, by have := HX.out.1; omega, by go_num, HB.out, q3⟩
        case measure => have := HX.out.1; simp [intOf]; omega
      · rw [hb] at cF
        have HB := Lib.hid (HY.out hb)
        clear hb HA HY hl'
        go_wp2_with (go_at_fn 45; refine cF.mono ?_; rintro e w' ⟨rfl, q2⟩)
        have q3 := HX.out.2.trans ‹B wo _›
        go_ret
        exact ⟨by rw [HB.out]; rfl, q3⟩
    · have hlB : decide ((i : Int) < (n0 : Int)) = false := decide_eq_false (by omega)
      have hlN : decide (i < n0) = false := decide_eq_false hl
      have HZ := Lib.hid (And.intro (tipIx_none (L := L) (n := n) (fun j hj => hall j hj (by have := HN.out; omega))) q)
      clear hall hi hlen
      go_wp2
      go_ret
      exact ⟨by rw [HZ.out.1]; rfl, HZ.out.2⟩
end Go.Proofs.Ytnmcgleanpdlmaa

namespace Go.Proofs.Ytnmcgleanpdlmaa
open Go.RowKit
set_option linter.unusedVariables false
/-- What a search for a well tells. -/
theorem sindex_any (wv tv fv : Value) (d : Dk) (p : Wp) (hp : I64 p.r ∧ I64 p.c) (w : World) (h : IsDk w wv tv fv d) (hb : ∀ x ∈ d.ws, wareB x) (h100 : d.ws.length ≤ 100) :
    Calls Try.prog 42 #[.agg #[wv, tv, fv], .agg #[.string p.n, .int .i64 p.r, .int .i64 p.c]] w fun e w' => e = .returned (.tuple #[.int .i64 (((ixW d p).getD 0 : Nat) : Int), .bool (ixW d p).isSome]) ∧ B w w' := by
  refine (windex_any wv tv fv d p.n p.r p.c hp.1 hp.2 w h hb h100).mono ?_
  rintro e w' ⟨rfl, q⟩
  refine ⟨?_, q.b⟩
  cases hi : ixW d p with
  | none => rw [ixW_no hi]; rfl
  | some k => rw [(ixW_lt hb hi).2]; rfl
def endsV (x : Option (Nat × Nat)) : Value := match x with
  | some (a, b) => .tuple #[.int .i64 (a : Int), .int .i64 (b : Int), .int .i64 0]
  | none => .tuple #[.int .i64 0, .int .i64 0, .int .i64 26]
set_option maxRecDepth 100000 in
set_option maxHeartbeats 2000000 in
theorem ends_any (wv tv fv : Value) (d : Dk) (s t : Wp) (v : Int) (n : ByteArray) (nw : Bool) (hs : I64 s.r ∧ I64 s.c) (ht : I64 t.r ∧ I64 t.c) (w : World) (h : IsDk w wv tv fv d) (hb : ∀ x ∈ d.ws, wareB x) (h100 : d.ws.length ≤ 100) :
    Calls Try.prog 30 #[.agg #[wv, tv, fv], .agg #[.string s.n, .int .i64 s.r, .int .i64 s.c, .string t.n, .int .i64 t.r, .int .i64 t.c, .int .i64 v, .string n, .bool nw]] w fun e w' => e = .returned (endsV (endsX d ⟨s, t, v, n, nw⟩)) ∧ B w w' := by
  have c1 := fun w' (q : B w w') => sindex_any wv tv fv d s hs w' (h.keepB q) hb h100
  have c2 := fun w' (q : B w w') => sindex_any wv tv fv d t ht w' (h.keepB q) hb h100
  obtain ⟨ao, ac, bo, bc, co, cc, rfl, rfl, rfl⟩ := h.forms
  obtain ⟨SN, SR, SC⟩ := s
  obtain ⟨TN, TR, TC⟩ := t
  simp only at c1 c2
  have hE := Lib.hid (show endsX d ⟨⟨SN, SR, SC⟩, ⟨TN, TR, TC⟩, v, n, nw⟩ = (match ixW d ⟨SN, SR, SC⟩, ixW d ⟨TN, TR, TC⟩ with | some a, some b => some (a, b) | _, _ => none) from rfl)
  generalize d.ws.length = n1 at *
  generalize d.ts.length = n2 at *
  generalize d.fs.length = n3 at *
  clear h hs ht hb h100
  have q2 : B w ((w.alloc (.cells #[.slice ao n1 ac, .slice bo n2 bc, .slice co n3 cc] 39)).alloc (.cells #[.string SN, .int .i64 SR, .int .i64 SC, .string TN, .int .i64 TR, .int .i64 TC, .int .i64 v, .string n, .bool nw] 52)) := ((B.refl w).alloc _ _).alloc _ _
  have o1 := ((B.refl (w.alloc (.cells #[.slice ao n1 ac, .slice bo n2 bc, .slice co n3 cc] 39))).alloc #[.string SN, .int .i64 SR, .int .i64 SC, .string TN, .int .i64 TR, .int .i64 TC, .int .i64 v, .string n, .bool nw] 52).obj (obj_new w (.cells #[.slice ao n1 ac, .slice bo n2 bc, .slice co n3 cc] 39))
  have o2 := obj_new (w.alloc (.cells #[.slice ao n1 ac, .slice bo n2 bc, .slice co n3 cc] 39)) (.cells #[.string SN, .int .i64 SR, .int .i64 SC, .string TN, .int .i64 TR, .int .i64 TC, .int .i64 v, .string n, .bool nw] 52)
  have hz : (w.alloc (.cells #[.slice ao n1 ac, .slice bo n2 bc, .slice co n3 cc] 39)).heap.size = w.heap.size + 1 := by simp
  rw [hz] at o2
  obtain ⟨W, hW⟩ : ∃ W, (w.alloc (.cells #[.slice ao n1 ac, .slice bo n2 bc, .slice co n3 cc] 39)).alloc (.cells #[.string SN, .int .i64 SR, .int .i64 SC, .string TN, .int .i64 TR, .int .i64 TC, .int .i64 v, .string n, .bool nw] 52) = W := ⟨_, rfl⟩
  rw [hW] at q2 o1 o2
  have a0 := obj_cell o1 0
  have a1 := obj_cell o1 1
  have a2 := obj_cell o1 2
  have b0 := obj_cell o2 0
  have b1 := obj_cell o2 1
  have b2 := obj_cell o2 2
  clear hz
  cases hx : ixW d ⟨SN, SR, SC⟩ <;> cases hy : ixW d ⟨TN, TR, TC⟩
  all_goals
    rw [hx] at c1
    rw [hy] at c2
    simp only [Option.isSome_none, Option.isSome_some, Option.getD_none, Option.getD_some] at c1 c2
    have hE' := Lib.hid (hE.out.trans (by rw [hx, hy]))
    go_enter Try.func30, Try.ntmps30
    go_wp2_with fail
    try rw [hW]
    refine (c1 W q2).mono ?_
    rintro e w1 ⟨rfl, q3⟩
    replace a0 := q3.keep a0
    replace a1 := q3.keep a1
    replace a2 := q3.keep a2
    have d3 := obj_cell (q3.obj o2) 3
    have d4 := obj_cell (q3.obj o2) 4
    have d5 := obj_cell (q3.obj o2) 5
    have q23 := q2.trans q3
    go_wp2_with fail
    refine (c2 w1 q23).mono ?_
    rintro e w2 ⟨rfl, q4⟩
    have HQ := Lib.hid (q23.trans q4)
    clear q3 q4 q23 c1 c2 hx hy
    go_wp2
    go_ret3
    exact ⟨by rw [hE'.out]; rfl, HQ.out⟩
end Go.Proofs.Ytnmcgleanpdlmaa

namespace Go.Proofs.Ytnmcgleanpdlmaa
open Go.RowKit
set_option linter.unusedVariables false
def strV (x : Except Nat Int) : Value := match x with
  | .ok k => .tuple #[.int .i64 k, .int .i64 0]
  | .error n => .tuple #[.int .i64 0, .int .i64 (n : Int)]
/-- The parts of a volume, and what is left over. -/
theorem parts_nums {v m : Int} (hv : 1 ≤ v ∧ v ≤ 20000000) (hm : 1 ≤ m ∧ m ≤ 20000000) : 1 ≤ (v + m - 1).tdiv m ∧ (v + m - 1).tdiv m ≤ 40000000 := by
  rw [Int.tdiv_eq_ediv_of_nonneg (by omega)]
  constructor
  · exact (Int.le_ediv_iff_mul_le (by omega)).2 (by omega)
  · exact Int.le_trans (Int.ediv_le_self _ (by omega)) (by omega)
theorem even_nums {v p : Int} (hv : 1 ≤ v ∧ v ≤ 20000000) (hp : 1 ≤ p ∧ p ≤ 1000) : 0 ≤ v.tdiv p ∧ v.tdiv p ≤ 20000000 ∧ 0 ≤ v.tmod p ∧ v.tmod p < p := by
  rw [Int.tdiv_eq_ediv_of_nonneg (by omega), Int.tmod_eq_emod_of_nonneg (by omega)]
  exact ⟨Int.ediv_nonneg (by omega) (by omega), Int.le_trans (Int.ediv_le_self _ (by omega)) hv.2, Int.emod_nonneg _ (by omega), Int.emod_lt_of_pos _ (by omega)⟩
theorem pcs_nums {p : Int} (h : 0 ≤ p) : 0 ≤ pcsX p ∧ pcsX p ≤ 4 := by unfold pcsX; omega
theorem mul4 {a k : Int} (ha : 0 ≤ a ∧ a ≤ 1000) (hk : 0 ≤ k ∧ k ≤ 4) : 0 ≤ a * k ∧ a * k ≤ 4000 := by
  refine ⟨Int.mul_nonneg ha.1 hk.1, ?_⟩
  exact Int.le_trans (Int.mul_le_mul_of_nonneg_right ha.2 hk.1) (by omega)
/-- The tips' bounds. -/
def tipsB (L : List Rec) : Prop := ∀ x ∈ L, (1 ≤ x.x ∧ x.x ≤ 20000000) ∧ 0 ≤ x.z ∧ x.z ≤ 10000
set_option maxRecDepth 100000 in
set_option maxHeartbeats 2000000 in
theorem strokes_any (tv : Value) (L : List Rec) (s t : Wp) (v : Int) (n : ByteArray) (nw : Bool) (hv : I64 v) (hB : tipsB L) (w : World) (h : IsRecs w tv L) :
    Calls Try.prog 31 #[tv, .agg #[.string s.n, .int .i64 s.r, .int .i64 s.c, .string t.n, .int .i64 t.r, .int .i64 t.c, .int .i64 v, .string n, .bool nw]] w fun e w' => e = .returned (strV (strokesT L n v)) ∧ B w w' := by
  obtain ⟨SN, SR, SC⟩ := s
  obtain ⟨TN, TR, TC⟩ := t
  have q0 : B w (w.alloc (.cells #[.string SN, .int .i64 SR, .int .i64 SC, .string TN, .int .i64 TR, .int .i64 TC, .int .i64 v, .string n, .bool nw] 52)) := (B.refl w).alloc _ _
  have oO := obj_new w (.cells #[.string SN, .int .i64 SR, .int .i64 SC, .string TN, .int .i64 TR, .int .i64 TC, .int .i64 v, .string n, .bool nw] 52)
  have cI := stipix_any tv L n w.heap.size _ (h.keepB q0) (obj_cell oO 7)
  obtain ⟨R, hE⟩ : ∃ R, R = strokesT L n v := ⟨_, rfl⟩
  rw [← hE]
  unfold strokesT at hE
  simp only
  cases hi : tipIx L n with
  | none =>
    rw [hi] at cI hE
    simp only [ixV] at cI hE
    have HE := Lib.hid hE
    have hlt : decide ((-1 : Int) < 0) = true := rfl
    clear hi hE hB h oO
    go_enter Try.func31, Try.ntmps31
    go_wp2_with fail
    refine cI.mono ?_
    rintro e w1 ⟨rfl, q1⟩
    have HQ := Lib.hid (q0.trans q1)
    clear cI q0 q1
    go_wp2
    go_ret2
    exact ⟨by rw [HE.out]; rfl, HQ.out⟩
  | some i =>
    have hlt := tipIx_lt hi
    rw [hi] at cI hE
    simp only [ixV] at cI hE
    have cW := fun w' => swithin_any v 1 20000000 w'
    have i0 : decide ((i : Int) < 0) = false := decide_eq_false (by omega)
    cases hin : inB v 1 20000000 with
    | false =>
      rw [hin] at hE cW
      simp only [Bool.false_eq_true, if_false] at hE
      have HE := Lib.hid hE
      clear hi hE hB h hin
      go_enter Try.func31, Try.ntmps31
      go_wp2_with fail
      refine cI.mono ?_
      rintro e w1 ⟨rfl, q1⟩
      have k6 := obj_cell (q1.obj oO) 6
      have HQ := Lib.hid (q0.trans q1)
      clear cI q0 q1 oO
      go_wp2_with fail
      refine (cW _).mono ?_
      rintro e w2 ⟨rfl, rfl⟩
      go_wp2
      go_ret2
      exact ⟨by rw [HE.out]; rfl, HQ.out⟩
    | true =>
      rw [hin] at hE cW
      have hvv : 1 ≤ v ∧ v ≤ 20000000 := by unfold inB at hin; simp only [Bool.and_eq_true, decide_eq_true_eq] at hin; exact hin
      obtain ⟨rc, hrc⟩ : ∃ rc, L[i] = rc := ⟨_, rfl⟩
      have hget : L[i]? = some rc := by rw [List.getElem?_eq_getElem hlt, hrc]
      rw [hget] at hE
      simp only [if_true] at hE
      obtain ⟨hx, hz⟩ := hB rc (List.mem_of_getElem? hget)
      obtain ⟨a, cap, e1, _, _, hr⟩ := h.at_ hlt
      rw [hrc] at hr
      subst e1
      obtain ⟨m, x, y, z, sl⟩ := rc
      obtain ⟨r1, r2, r3, r4, _⟩ := hr
      simp only at r1 r2 r3 r4 hx hz hE
      obtain ⟨ln, hln⟩ : ∃ ln, L.length = ln := ⟨_, rfl⟩
      have hil : (i : Int) < (ln : Int) := by omega
      have hi0 : (0 : Int) ≤ (i : Int) := by omega
      rw [hln] at cI ⊢
      obtain ⟨Z4, hZ4⟩ : ∃ Z4, 4 * z = Z4 := ⟨_, rfl⟩
      obtain ⟨M, hM⟩ : ∃ M, x - Z4 = M := ⟨_, rfl⟩
      have w1 : IntKind.i64.wrap (4 * z) = Z4 := by rw [IntKind.wrap_i64]; omega
      have w2 : IntKind.i64.wrap (x - Z4) = M := by rw [IntKind.wrap_i64]; omega
      rw [hZ4, hM] at hE
      have hM1 : -40000 ≤ M ∧ M ≤ 20000000 := by omega
      replace r2 := q0.keep r2
      replace r4 := q0.keep r4
      clear hB h hrc hget hln hi hlt hin hx hz hM hZ4
      by_cases hm : M < 1
      · have hmB : decide (M < 1) = true := decide_eq_true hm
        unfold cntX at hE
        rw [if_pos hm] at hE
        have HE := Lib.hid hE
        clear hE hm hM1 hvv
        go_enter Try.func31, Try.ntmps31
        go_wp2_with fail
        refine cI.mono ?_
        rintro e w1 ⟨rfl, q1⟩
        have k6 := obj_cell (q1.obj oO) 6
        replace r2 := q1.keep r2
        replace r4 := q1.keep r4
        have HQ := Lib.hid (q0.trans q1)
        clear cI q0 q1 oO
        go_wp2_with fail
        refine (cW _).mono ?_
        rintro e w2 ⟨rfl, rfl⟩
        go_wp2_with fail
        go_quiet (fail)
        go_wp2
        go_ret2
        exact ⟨by rw [HE.out]; rfl, HQ.out.drewN _⟩
      · have hmB : decide (M < 1) = false := decide_eq_false hm
        have hm0 : ¬ M = 0 := by omega
        obtain ⟨p1, p2⟩ := parts_nums hvv ⟨by omega, hM1.2⟩
        unfold cntX at hE
        rw [if_neg hm] at hE
        obtain ⟨S, hS⟩ : ∃ S, v + M = S := ⟨_, rfl⟩
        obtain ⟨S1, hS1⟩ : ∃ S1, S - 1 = S1 := ⟨_, rfl⟩
        have w3 : IntKind.i64.wrap (v + M) = S := by rw [IntKind.wrap_i64]; omega
        have w4 : IntKind.i64.wrap (S - 1) = S1 := by rw [IntKind.wrap_i64]; omega
        rw [hS, hS1] at p1 p2 hE
        obtain ⟨P, hP⟩ : ∃ P, S1.tdiv M = P := ⟨_, rfl⟩
        rw [hP] at p1 p2 hE
        have w5 : IntKind.i64.wrap P = P := by rw [IntKind.wrap_i64]; omega
        clear hS hS1 hm hM1
        by_cases hp : 1000 < P
        · have hpB : decide (1000 < P) = true := decide_eq_true hp
          rw [if_pos hp] at hE
          have HE := Lib.hid hE
          clear hE hp p1 p2 hvv hv
          go_enter Try.func31, Try.ntmps31
          go_wp2_with fail
          refine cI.mono ?_
          rintro e w1 ⟨rfl, q1⟩
          have k6 := obj_cell (q1.obj oO) 6
          replace r2 := q1.keep r2
          replace r4 := q1.keep r4
          have HQ := Lib.hid (q0.trans q1)
          clear cI q0 q1 oO
          go_wp2_with fail
          refine (cW _).mono ?_
          rintro e w2 ⟨rfl, rfl⟩
          go_wp2_with fail
          go_quiet (fail)
          go_wp2
          go_ret2
          exact ⟨by rw [HE.out]; rfl, HQ.out.drewN _⟩
        · have hpB : decide (1000 < P) = false := decide_eq_false hp
          rw [if_neg hp] at hE
          have hp0 : ¬ P = 0 := by omega
          obtain ⟨l1, l2, g1, g2⟩ := even_nums hvv ⟨p1, by omega⟩
          obtain ⟨Lt, hLt⟩ : ∃ Lt, v.tdiv P = Lt := ⟨_, rfl⟩
          obtain ⟨Gr, hGr⟩ : ∃ Gr, v.tmod P = Gr := ⟨_, rfl⟩
          rw [hLt] at l1 l2 hE
          rw [hGr] at g1 g2 hE
          have y1 : IntKind.i64.wrap Lt = Lt := by rw [IntKind.wrap_i64]; omega
          have y2 : IntKind.i64.wrap Gr = Gr := by rw [IntKind.wrap_i64]; omega
          obtain ⟨L1, hL1⟩ : ∃ L1, Lt + 1 = L1 := ⟨_, rfl⟩
          have y3 : IntKind.i64.wrap (Lt + 1) = L1 := by rw [IntKind.wrap_i64]; omega
          have c1 := fun w' => pieces_any L1 w'
          have c0 := fun w' => pieces_any Lt w'
          have b1 := pcs_nums (p := L1) (by omega)
          have b0 := pcs_nums (p := Lt) (by omega)
          rw [hL1] at hE
          generalize pcsX L1 = K1 at *
          generalize pcsX Lt = K0 at *
          obtain ⟨D, hD⟩ : ∃ D, P - Gr = D := ⟨_, rfl⟩
          have y4 : IntKind.i64.wrap (P - Gr) = D := by rw [IntKind.wrap_i64]; omega
          have m1 := mul4 (a := Gr) (k := K1) (by omega) b1
          have m0 := mul4 (a := D) (k := K0) (by omega) b0
          rw [hD] at hE
          obtain ⟨M1, hM1⟩ : ∃ M1, Gr * K1 = M1 := ⟨_, rfl⟩
          obtain ⟨M0, hM0⟩ : ∃ M0, D * K0 = M0 := ⟨_, rfl⟩
          rw [hM1] at m1 hE
          rw [hM0] at m0 hE
          have y5 : IntKind.i64.wrap (Gr * K1) = M1 := by rw [hM1, IntKind.wrap_i64]; omega
          have y6 : IntKind.i64.wrap (D * K0) = M0 := by rw [hM0, IntKind.wrap_i64]; omega
          obtain ⟨T, hT⟩ : ∃ T, M1 + M0 = T := ⟨_, rfl⟩
          have y7 : IntKind.i64.wrap (M1 + M0) = T := by rw [IntKind.wrap_i64]; omega
          have y8 : IntKind.i64.wrap T = T := by rw [IntKind.wrap_i64]; omega
          rw [hT] at hE
          have HE := Lib.hid hE
          clear hE hp p1 p2 hvv hv l1 l2 g1 g2 hL1 b1 b0 hD m1 m0 hM1 hM0 hT
          go_enter Try.func31, Try.ntmps31
          go_wp2_with fail
          refine cI.mono ?_
          rintro e w1 ⟨rfl, q1⟩
          have k6 := obj_cell (q1.obj oO) 6
          replace r2 := q1.keep r2
          replace r4 := q1.keep r4
          have HQ := Lib.hid (q0.trans q1)
          clear cI q0 q1 oO
          go_wp2_with fail
          refine (cW _).mono ?_
          rintro e w2 ⟨rfl, rfl⟩
          go_wp2_with fail
          go_quiet (fail)
          go_wp2_with fail
          go_quiet (fail)
          go_wp2_with fail
          refine (c1 _).mono ?_
          rintro e w5 ⟨rfl, rfl⟩
          go_wp2_with fail
          refine (c0 _).mono ?_
          rintro e w6 ⟨rfl, rfl⟩
          go_wp2
          go_ret2
          exact ⟨by rw [HE.out]; rfl, HQ.out.drewN _⟩
end Go.Proofs.Ytnmcgleanpdlmaa

namespace Go.Proofs.Ytnmcgleanpdlmaa
open Go.RowKit
set_option linter.unusedVariables false
/-- Numbers in memory. -/
def IsIs (w : World) (v : Value) (l : List Nat) : Prop :=
  (v = .slice none 0 0 ∧ l = []) ∨
  ∃ (g cap : Nat), v = .slice (some ⟨g, 0, none⟩) l.length cap ∧ l.length ≤ cap ∧ cap ≤ maxLen ∧ g < w.heap.size ∧ ∀ i x, l[i]? = some x → w.cell? ⟨g, i, none⟩ = some (.int .i64 ((x : Nat) : Int))
theorem IsIs.block {w w' : World} {v : Value} {l : List Nat} (h : IsIs w v l) (hs : w.heap.size ≤ w'.heap.size) (hb : ∀ b, v.ownBlock = some b → b < w.heap.size → w'.heap[b]? = w.heap[b]?) : IsIs w' v l := by
  rcases h with h | ⟨g, cap, rfl, h1, h2, h3, h4⟩
  · exact .inl h
  · have e := hb g rfl h3
    exact .inr ⟨g, cap, rfl, h1, h2, by omega, fun i x hx => (World.cell?_of_block (a := ⟨g, i, none⟩) e).trans (h4 i x hx)⟩
theorem IsIs.keep {w w' : World} {v : Value} {l : List Nat} (h : IsIs w v l) (q : B w w') : IsIs w' v l := h.block q.below.size fun b _ hlt => q.below.block b hlt
theorem IsIs.form {w : World} {v : Value} {l : List Nat} (h : IsIs w v l) : ∃ ao cap, v = .slice ao l.length cap := by
  rcases h with ⟨rfl, rfl⟩ | ⟨g, cap, rfl, _⟩
  · exact ⟨_, _, rfl⟩
  · exact ⟨_, _, rfl⟩
/-- Rows of numbers in a row that the call owns. -/
structure PlsO (w : World) (base : Nat) (e : TypeId) (v : Value) (LL : List (List Nat)) (vs : List Value) : Prop where
  len : vs.length = LL.length
  own : w.ownsRow base e 1 v LL.length vs
  row : ∀ (j : Nat) u l, vs[j]? = some u → LL[j]? = some l → IsIs w u l ∧ ∀ b, u.ownBlock = some b → v.ownBlock ≠ some b ∧ b < w.heap.size
theorem PlsO.nil (w : World) (base : Nat) (e : TypeId) : PlsO w base e (.slice none 0 0) [] [] := ⟨rfl, World.ownsRow_nil _ _ _ _, fun j u l h => by simp at h⟩
theorem PlsO.keep {w w' : World} {base : Nat} {e : TypeId} {v : Value} {LL : List (List Nat)} {vs : List Value} (h : PlsO w base e v LL vs) (q : B w w') : PlsO w' base e v LL vs :=
  ⟨h.len, row_keep h.own q, fun j u l hu hl => by
    obtain ⟨h1, h2⟩ := h.row j u l hu hl
    exact ⟨h1.keep q, fun b hb => ⟨(h2 b hb).1, Nat.lt_of_lt_of_le (h2 b hb).2 q.below.size⟩⟩⟩
/-- Rows of numbers in memory. -/
def IsPls (w : World) (v : Value) (LL : List (List Nat)) : Prop :=
  (v = .slice none 0 0 ∧ LL = []) ∨
  ∃ (g cap : Nat), v = .slice (some ⟨g, 0, none⟩) LL.length cap ∧ LL.length ≤ cap ∧ cap ≤ maxLen ∧ ∀ (i : Nat) l, LL[i]? = some l → ∃ u, w.cell? ⟨g, i, none⟩ = some u ∧ IsIs w u l
theorem IsPls.keep {w w' : World} {v : Value} {LL : List (List Nat)} (h : IsPls w v LL) (q : B w w') : IsPls w' v LL := by
  rcases h with h | ⟨g, cap, h1, h2, h3, h4⟩
  · exact .inl h
  · exact .inr ⟨g, cap, h1, h2, h3, fun i l hl => let ⟨u, k1, k2⟩ := h4 i l hl; ⟨u, q.keep k1, k2.keep q⟩⟩
theorem IsPls.form {w : World} {v : Value} {LL : List (List Nat)} (h : IsPls w v LL) : ∃ ao cap, v = .slice ao LL.length cap := by
  rcases h with ⟨rfl, rfl⟩ | ⟨g, cap, rfl, _⟩
  · exact ⟨_, _, rfl⟩
  · exact ⟨_, _, rfl⟩
theorem PlsO.is {w : World} {base : Nat} {e : TypeId} {v : Value} {LL : List (List Nat)} {vs : List Value} (h : PlsO w base e v LL vs) : IsPls w v LL := by
  have hown := h.own
  rcases hown.2 with ⟨h0, h1⟩ | ⟨g, cap, cur, rfl, _, _, h1, h2, _⟩
  · exact .inl ⟨h0, List.length_eq_zero_iff.1 (by omega)⟩
  · refine .inr ⟨g, cap, rfl, h1, h2, fun i l hl => ?_⟩
    have hi : i < LL.length := (List.getElem?_eq_some_iff.1 hl).1
    obtain ⟨u, hu⟩ : ∃ u, vs[i]? = some u := ⟨_, List.getElem?_eq_getElem (by rw [h.len]; exact hi)⟩
    exact ⟨u, by rw [h.own.cellAt i (by omega)]; exact hu, (h.row i u l hu hl).1⟩
def flatWp (l : List Wp) : List Value := l.flatMap fun p => [.string p.n, .int .i64 p.r, .int .i64 p.c]
theorem flatWp_len : ∀ l : List Wp, (flatWp l).length = l.length * 3
  | [] => rfl
  | p :: l => by
    have := flatWp_len l
    show ([Value.string p.n, .int .i64 p.r, .int .i64 p.c] ++ flatWp l).length = (l.length + 1) * 3
    rw [List.length_append, this]
    show 3 + l.length * 3 = _
    omega
theorem flatWp_snoc (l : List Wp) (p : Wp) : flatWp (l ++ [p]) = flatWp l ++ [.string p.n, .int .i64 p.r, .int .i64 p.c] := by simp [flatWp]
theorem flatWp_get : ∀ (l : List Wp) (i : Nat) (p : Wp), l[i]? = some p → (flatWp l)[i * 3]? = some (.string p.n) ∧ (flatWp l)[i * 3 + 1]? = some (.int .i64 p.r) ∧ (flatWp l)[i * 3 + 2]? = some (.int .i64 p.c)
  | [], _, _, h => by simp at h
  | q :: l, 0, p, h => by
    simp only [List.getElem?_cons_zero, Option.some.injEq] at h
    subst h
    exact ⟨rfl, rfl, rfl⟩
  | q :: l, i + 1, p, h => by
    have := flatWp_get l i p (by simpa using h)
    show ([Value.string q.n, .int .i64 q.r, .int .i64 q.c] ++ flatWp l)[(i + 1) * 3]? = _ ∧ ([Value.string q.n, .int .i64 q.r, .int .i64 q.c] ++ flatWp l)[(i + 1) * 3 + 1]? = _ ∧ ([Value.string q.n, .int .i64 q.r, .int .i64 q.c] ++ flatWp l)[(i + 1) * 3 + 2]? = _
    refine ⟨?_, ?_, ?_⟩
    · rw [List.getElem?_append_right (by show 3 ≤ _; omega), show (i + 1) * 3 - [Value.string q.n, .int .i64 q.r, .int .i64 q.c].length = i * 3 by show _ - 3 = _; omega]; exact this.1
    · rw [List.getElem?_append_right (by show 3 ≤ _; omega), show (i + 1) * 3 + 1 - [Value.string q.n, .int .i64 q.r, .int .i64 q.c].length = i * 3 + 1 by show _ - 3 = _; omega]; exact this.2.1
    · rw [List.getElem?_append_right (by show 3 ≤ _; omega), show (i + 1) * 3 + 2 - [Value.string q.n, .int .i64 q.r, .int .i64 q.c].length = i * 3 + 2 by show _ - 3 = _; omega]; exact this.2.2
theorem isWps_own {w : World} {base : Nat} {e : TypeId} {v : Value} {l : List Wp} (h : w.ownsRow base e 3 v l.length (flatWp l)) : IsWps w v l := by
  rcases h.2 with ⟨h0, h1⟩ | ⟨g, cap, cur, rfl, hb, ho, h1, h2, h3⟩
  · exact .inl ⟨h0, List.length_eq_zero_iff.1 (by omega)⟩
  · refine .inr ⟨⟨g, 0, none⟩, cap, rfl, h1, h2, fun i p hp => ?_⟩
    have hi : i < l.length := (List.getElem?_eq_some_iff.1 hp).1
    obtain ⟨k1, k2, k3⟩ := flatWp_get l i p hp
    rw [addz]
    exact ⟨(h.cellAt (i * 3) (by omega)).trans k1, (h.cellAt (i * 3 + 1) (by omega)).trans k2, (h.cellAt (i * 3 + 2) (by omega)).trans k3⟩
end Go.Proofs.Ytnmcgleanpdlmaa

namespace Go.Proofs.Ytnmcgleanpdlmaa
open Go.RowKit
set_option linter.unusedVariables false
theorem own_slice {w : World} {base : Nat} {e : TypeId} {size n : Nat} {v : Value} {xs : List Value} (h : w.ownsRow base e size v n xs) : ∃ so sc, v = .slice so n sc := by
  rcases h.2 with ⟨h0, h1⟩ | ⟨g, cap, cur, rfl, _⟩
  · exact ⟨none, 0, by rw [h0, h1]⟩
  · exact ⟨_, _, rfl⟩
theorem far_ownU {w : World} {b2 : Nat} {e2 t : TypeId} {s2 n2 : Nat} {v2 : Value} {x2 : List Value} {i : Nat} {cs : Array Value} (ho : w.heap[i]? = some (.cells cs t (0, 0))) (h2 : w.ownsRow b2 e2 s2 v2 n2 x2) (he : t ≠ e2) : v2.ownBlock ≠ some i :=
  obj_apart ho h2 (fun e => he (by simpa [kindO] using e))
theorem own_tnU {K : List (Option TypeId)} {b base : Nat} {w w' : World} {e : TypeId} {size n : Nat} {v : Value} {xs : List Value} (h : w.ownsRow base e size v n xs) (t : Tn K b w w') (hK : some e ∉ K) : w'.ownsRow base e size v n xs := by
  refine ⟨h.1, ?_⟩
  rcases h.2 with hn | ⟨g, cap, cur, rfl, hb, hg, rest⟩
  · exact .inl hn
  · exact .inr ⟨g, cap, cur, rfl, hb, t.objc hg hK, rest⟩
structure StepU (w : World) (base b : Nat) (s : Sp) (wv : Value) : Prop where
  obj : w.heap[b]? = some (.cells #[.int .i64 s.k, .string s.n, wv, .int .i64 s.v, .int .i64 s.m] 82 (0, 0))
  row : w.ownsRow base 50 3 wv s.w.length (flatWp s.w)
theorem StepU.keep {w w' : World} {base b : Nat} {s : Sp} {wv : Value} (h : StepU w base b s wv) (q : B w w') : StepU w' base b s wv := ⟨q.obj h.obj, row_keep h.row q⟩
/-- Other boxes of steps stay. -/
def Oth (b : Nat) (w w' : World) : Prop := ∀ i cs, i ≠ b → w.heap[i]? = some (.cells cs 82 (0, 0)) → w'.heap[i]? = some (.cells cs 82 (0, 0))
theorem Oth.refl (b : Nat) (w : World) : Oth b w w := fun _ _ _ h => h
theorem Oth.trans {b : Nat} {u v w : World} (h : Oth b u v) (k : Oth b v w) : Oth b u w := fun i cs hi ho => k i cs hi (h i cs hi ho)
theorem Oth.b (b : Nat) {w w' : World} (q : B w w') : Oth b w w' := fun _ _ _ h => q.obj h
theorem Oth.set (b : Nat) (w : World) (k : Nat) (x : Value) : Oth b w (w.setCell ⟨b, k, none⟩ x) := fun i _ hi h => (Below.heap_setCell w ⟨b, k, none⟩ x i hi).trans h
theorem Oth.grown (b : Nat) {w w' : World} {base : Nat} {e : TypeId} {size n : Nat} {v : Value} {xs : List Value} (hg : w.grownBy w' v.ownBlock) (hr : w.ownsRow base e size v n xs) (he : 82 ≠ e) : Oth b w w' := fun _ _ _ h => obj_grown hg h (far_ownU h hr he)
end Go.Proofs.Ytnmcgleanpdlmaa
