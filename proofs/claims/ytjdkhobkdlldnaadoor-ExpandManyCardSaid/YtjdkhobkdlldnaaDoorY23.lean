/-
  The document's boards: New; Layer 13's boards: the program's and the document's of a deck of numbers; Layer 13: the statements' known answers; Layer 13: steps of a statement's own making, in a row that the call owns, their wells in others.
-/
import Derived.Deep.AppendLies
import Derived.Deep.QuietTactic
import Derived.BigQuiet
import Derived.Laws.Strings2
import Derived.Laws.Slices
import Derived.KernelRfl
import Derived.OwnWalk
import Derived.Laws.OwnMore
import Derived.Test.YtjdkhobkdlldnaaDoorY1
import Derived.Test.YtjdkhobkdlldnaaDoorY2
import Derived.Test.YtjdkhobkdlldnaaDoorY3
import Derived.Test.YtjdkhobkdlldnaaDoorY4
import Derived.Test.YtjdkhobkdlldnaaDoorY5
import Derived.Test.YtjdkhobkdlldnaaDoorY6
import Derived.Test.YtjdkhobkdlldnaaDoorY7
import Derived.Test.YtjdkhobkdlldnaaDoorY8
import Derived.Test.YtjdkhobkdlldnaaDoorY9
import Derived.Test.YtjdkhobkdlldnaaDoorY10
import Derived.Test.YtjdkhobkdlldnaaDoorY11
import Derived.Test.YtjdkhobkdlldnaaDoorY12
import Derived.Test.YtjdkhobkdlldnaaDoorY13
import Derived.Test.YtjdkhobkdlldnaaDoorY14
import Derived.Test.YtjdkhobkdlldnaaDoorY15
import Derived.Test.YtjdkhobkdlldnaaDoorY16
import Derived.Test.YtjdkhobkdlldnaaDoorY17
import Derived.Test.YtjdkhobkdlldnaaDoorY18
import Derived.Test.YtjdkhobkdlldnaaDoorY19
import Derived.Test.YtjdkhobkdlldnaaDoorY20
import Derived.Test.YtjdkhobkdlldnaaDoorY21
import Derived.Test.YtjdkhobkdlldnaaDoorY22
namespace Go.Proofs.YtjdkhobkdlldnaaDoor
open Go.RowKit
set_option linter.unusedVariables false
set_option maxRecDepth 100000 in
set_option maxHeartbeats 4000000 in
theorem r11new_any (wv tv fv : Value) (d : Dk) (w : World) (h : IsDk w wv tv fv d) (hr : rightD d = true) : Calls Tryd.prog 42 #[.agg #[wv, tv, fv]] w fun e w' => ∃ b, e = .returned (.tuple #[.pointer (some ⟨b, 0, none⟩), .int .i64 0]) ∧ Held (RBt d b wv tv fv) w.heap.size w'.heap.size w' ∧ B w w' := by
  obtain ⟨p8, p4, pW, pT⟩ := right_parts9 hr
  have hWr : ∀ r ∈ d.ws, rightS r.l = true := fun r hm => by
    obtain ⟨i, hi⟩ := List.getElem?_of_mem hm
    exact wareOk_right (apart_at pW hi).1
  have hTr : ∀ r ∈ d.ts, rightS r.l = true := fun r hm => by
    obtain ⟨i, hi⟩ := List.getElem?_of_mem hm
    exact tipOk_right (apart_at pT hi).1
  obtain ⟨ao, ac, bo, bc, co, cc, rfl, rfl, rfl⟩ := h.forms
  have q0 : B w (w.alloc (.cells #[.slice ao d.ws.length ac, .slice bo d.ts.length bc, .slice co d.fs.length cc] 33)) := (B.refl w).alloc _ _
  have oD := obj_new w (.cells #[.slice ao d.ws.length ac, .slice bo d.ts.length bc, .slice co d.fs.length cc] 33)
  have cR := r8deckright_any _ _ _ d _ (h.keepB q0)
  rw [hr] at cR
  have hnot : ∀ (x : Bool) (w : World), (Op.unary .not (.bool x)).run Tryd.prog w = .ok (.bool (!x)) w := fun _ _ => rfl
  go_enter Tryd.func42, Tryd.ntmps42
  go_wp2_with fail
  generalize w.alloc (.cells #[.slice ao d.ws.length ac, .slice bo d.ts.length bc, .slice co d.fs.length cc] 33) = w0 at *
  refine cR.mono ?_
  rintro e w1 ⟨rfl, q1⟩
  have oDa := q1.obj oD
  have k0 := obj_cell oDa 0
  have k1' := obj_cell oDa 1
  have k2' := obj_cell oDa 2
  have qb : B w1 (w1.alloc (.cells #[.slice ao d.ws.length ac, .slice bo d.ts.length bc, .slice co d.fs.length cc, .slice none 0 0, .slice none 0 0] 161)) := (B.refl _).alloc _ _
  have oB1 := obj_new w1 (.cells #[.slice ao d.ws.length ac, .slice bo d.ts.length bc, .slice co d.fs.length cc, .slice none 0 0, .slice none 0 0] 161)
  have oD1 := qb.obj oDa
  have b1 := (q0.trans q1).trans qb
  have hwb : w.heap.size ≤ w1.heap.size := (q0.trans q1).below.size
  have hDb := obj_lt oDa
  clear cR q0 q1 oD qb oDa
  go_wp2_with fail
  generalize w1.alloc (.cells #[.slice ao d.ws.length ac, .slice bo d.ts.length bc, .slice co d.fs.length cc, .slice none 0 0, .slice none 0 0] 161) = W1 at *
  generalize w1.heap.size = b at *
  generalize hDbe : w.heap.size = Db at *
  obtain ⟨k1, hk1⟩ : ∃ k, W1.heap.size = k := ⟨_, rfl⟩
  have hbk := obj_lt oB1
  clear k0 k1' k2'
  go_loopw [5] (fun iv wr => ∃ (i : Nat) (sv : Value) (ps : List Value), i ≤ d.ws.length ∧ iv = .int .i64 i ∧ RbL d.ws k1 b wr sv ps i ∧ wr.heap[b]? = some (.cells #[.slice ao d.ws.length ac, .slice bo d.ts.length bc, .slice co d.fs.length cc, sv, .slice none 0 0] 161 (0, 0)) ∧ G (fun k => k = b) W1 wr) (fun iv _ => d.ws.length + 1 - (intOf iv).toNat)
  case atStart => exact ⟨0, .slice none 0 0, [], Nat.zero_le _, rfl, RbL.start _ _ _ _, oB1, G.refl _ _⟩
  case round =>
    obtain ⟨i, sv, ps, hi, rfl, hL, oBl, hg⟩ := hrel
    obtain ⟨wl, rfl⟩ : ∃ wl : World, wl = wr := ⟨_, rfl⟩
    obtain ⟨so, sc, rfl⟩ := ownsRow_form hL.row
    have oDl := hg.obj (by show ¬ Db = b; omega) oD1
    have d0 := obj_cell oDl 0
    have bl := hg.b b1 (fun i hi => by subst hi; rw [hDbe]; exact hwb)
    by_cases hl : i < d.ws.length
    · have hlB : decide ((i : Int) < (d.ws.length : Int)) = true := decide_eq_true (by omega)
      have hlN : decide (i < d.ws.length) = true := decide_eq_true hl
      have hi0 : (0 : Int) ≤ (i : Int) := by omega
      have hiI : (i : Int) < (d.ws.length : Int) := by omega
      have wk1 : IntKind.i64.wrap ((i : Int) + 1) = (i : Int) + 1 := by rw [IntKind.wrap_i64]; omega
      obtain ⟨xa, xc, hxa, _, _, hrec⟩ := h.ws.at_ hl
      simp only [Value.slice.injEq, true_and] at hxa
      obtain ⟨rfl, rfl⟩ := hxa
      have hr : d.ws[i]? = some d.ws[i] := List.getElem?_eq_getElem hl
      have hok := hWr _ (List.mem_of_getElem? hr)
      generalize d.ws[i] = r at *
      obtain ⟨v, g4, hsv⟩ := hrec.l
      obtain ⟨vo, vn, vc, rfl⟩ := hsv.form
      replace g4 := bl.keep g4
      have cO := r3of_held _ r.l wl (hsv.keepB bl)
      have HL := Lib.hid (And.intro hL (And.intro oBl (And.intro hg (And.intro hr (And.intro hl hok)))))
      clear hL oBl hg hr hl hrec hsv
      go_wp2_with fail
      refine cO.mono ?_
      rintro e wt (⟨_, p0, rfl, ht, qt⟩ | ⟨h0, _⟩)
      · obtain ⟨p, _, _, _, _, rfl, _⟩ := ht.now
        obtain ⟨hL, oBl, hg, hr, hl, _⟩ := HL.out
        have oBt := qt.obj oBl
        have y3 := obj_cell oBt 3
        have qa : B wt (wt.alloc (.cells #[.pointer (some ⟨p, 0, none⟩)] 162)) := (B.refl _).alloc _ _
        have hownA := own_keepBx (own_keepBx hL.row qt) qa
        have oBa := qa.obj oBt
        have hbA : k1 ≤ (wt.alloc (.cells #[.pointer (some ⟨p, 0, none⟩)] 162)).heap.size := by have h1 := hg.size; have h2 := qt.below.size; have h3 := qa.below.size; omega
        have hfar := farF2 oBa hownA (by decide)
        obtain ⟨i0, hi0', hz0, hz1, hz2⟩ := info_of ptInfo
        have hl1 : i + 1 ≤ maxLen := by unfold maxLen; omega
        have hl2 : (i + 1) * 8 ≤ 140737488355328 := by omega
        have HA := Lib.hid (And.intro oBa (And.intro qa (And.intro qt (And.intro ht hownA))))
        clear hL oBl hg hr hl oBt qa ht qt cO bl
        go_wp2_with (at_builtin; refine wpList_append_lies _ rfl _ _ 159 rfl k1 162 i0 (.pointer none) 1 8 Tryd.underlying159 hi0' hz0 hz1 hz2 rfl (by omega) _ i ps rfl hownA ⟨wt.heap.size, 0, none⟩ 1 1 [.pointer (some ⟨p, 0, none⟩)] rfl rfl (news_plain rfl) (by simp [Value.oneCell']) (by omega) hl1 hl2 hbA _ rfl ?_; intro gN cN w9 hownN hgrowN hatN hltN; have oB9 := obj_grown hgrowN oBa hfar; have y9 := obj_cell oB9 3; have z9 := obj_free oB9 3)
        obtain ⟨hL, oBl, hg, hr, hl, _⟩ := HL.out
        obtain ⟨_, qa, qt, ht, _⟩ := HA.out
        have hM := hL.more hr (obj_lt oBl) qt ht qa hownN hgrowN hatN
        have gp : G (fun k => k = b) w9 (w9.setCell ⟨b, 3, none⟩ (.slice (some ⟨gN, 0, none⟩) (i + 1) cN)) := one_own _ _ _ _
        have hM2 := hM.put oB9 (by decide) gp
        have oB10 : (w9.setCell ⟨b, 3, none⟩ (.slice (some ⟨gN, 0, none⟩) (i + 1) cN)).heap[b]? = some (.cells #[.slice (some xa) d.ws.length ac, .slice bo d.ts.length bc, .slice co d.fs.length cc, (.slice (some ⟨gN, 0, none⟩) (i + 1) cN), .slice none 0 0] 161 (0, 0)) := by simpa using obj_set oB9 3 (.slice (some ⟨gN, 0, none⟩) (i + 1) cN)
        have hg10 : G (fun k => k = b) W1 (w9.setCell ⟨b, 3, none⟩ (.slice (some ⟨gN, 0, none⟩) (i + 1) cN)) := (((hg.trans (qt.g _)).trans (qa.g _)).grown hgrowN (fun k hk => .inr (by have := (hL.row.lt k hk).1; rw [hk1]; exact this))).trans gp
        have HZ := Lib.hid (And.intro hM2 (And.intro oB10 (And.intro hg10 hl)))
        clear hM hM2 oB10 hg10 gp hL oBl hg hr hl qa qt ht hownN hgrowN hatN hltN oB9 y9 z9 HL HA hownA
        go_roundw
        case rel => exact ⟨i + 1, _, _, by have := HZ.out.2.2.2; omega, by go_num, HZ.out.1, HZ.out.2.1, HZ.out.2.2.1⟩
        case measure => have := HZ.out.2.2.2; simp [intOf]; omega
      · have := HL.out.2.2.2.2.2
        rw [this] at h0
        cases h0
    · have hlB : decide ((i : Int) < (d.ws.length : Int)) = false := decide_eq_false (by omega)
      have hlN : decide (i < d.ws.length) = false := decide_eq_false hl
      obtain rfl : i = d.ws.length := by omega
      obtain ⟨W2, rfl⟩ : ∃ W2 : World, W2 = wl := ⟨_, rfl⟩
      have oD2 := oDl
      have oB2 := oBl
      have b2 := bl
      have hL1 := hL
      obtain ⟨uo, rfl⟩ : ∃ o, o = so := ⟨_, rfl⟩
      obtain ⟨uc, rfl⟩ : ∃ o, o = sc := ⟨_, rfl⟩
      obtain ⟨ps1, rfl⟩ : ∃ o, o = ps := ⟨_, rfl⟩
      obtain ⟨k2, hk2⟩ : ∃ k, W2.heap.size = k := ⟨_, rfl⟩
      have hk12 : k1 ≤ k2 := by have := hg.size; omega
      have H1 := Lib.hid (And.intro hL1 oBl)
      clear hL oDl oBl bl hg hL1
      have d1 := obj_cell oD2 1
      go_wp2_with fail
      clear hlB hlN hl hi d0
      go_loopw [8] (fun iv wr => ∃ (i : Nat) (sv : Value) (ps : List Value), i ≤ d.ts.length ∧ iv = .int .i64 i ∧ RbL d.ts k2 b wr sv ps i ∧ wr.heap[b]? = some (.cells #[.slice ao d.ws.length ac, .slice bo d.ts.length bc, .slice co d.fs.length cc, .slice uo d.ws.length uc, sv] 161 (0, 0)) ∧ G (fun k => k = b) W2 wr) (fun iv _ => d.ts.length + 1 - (intOf iv).toNat)
      case atStart => exact ⟨0, .slice none 0 0, [], Nat.zero_le _, rfl, RbL.start _ _ _ _, oB2, G.refl _ _⟩
      case round =>
        obtain ⟨i, sv, ps, hi, rfl, hL, oBl, hg⟩ := hrel
        obtain ⟨wl, rfl⟩ : ∃ wl : World, wl = wr := ⟨_, rfl⟩
        obtain ⟨so, sc, rfl⟩ := ownsRow_form hL.row
        have oDl := hg.obj (by show ¬ Db = b; omega) oD2
        have d0 := obj_cell oDl 1
        have bl := hg.b b2 (fun i hi => by subst hi; rw [hDbe]; exact hwb)
        by_cases hl : i < d.ts.length
        · have hlB : decide ((i : Int) < (d.ts.length : Int)) = true := decide_eq_true (by omega)
          have hlN : decide (i < d.ts.length) = true := decide_eq_true hl
          have hi0 : (0 : Int) ≤ (i : Int) := by omega
          have hiI : (i : Int) < (d.ts.length : Int) := by omega
          have wk1 : IntKind.i64.wrap ((i : Int) + 1) = (i : Int) + 1 := by rw [IntKind.wrap_i64]; omega
          obtain ⟨xa, xc, hxa, _, _, hrec⟩ := h.ts.at_ hl
          simp only [Value.slice.injEq, true_and] at hxa
          obtain ⟨rfl, rfl⟩ := hxa
          have hr : d.ts[i]? = some d.ts[i] := List.getElem?_eq_getElem hl
          have hok := hTr _ (List.mem_of_getElem? hr)
          generalize d.ts[i] = r at *
          obtain ⟨v, g4, hsv⟩ := hrec.l
          obtain ⟨vo, vn, vc, rfl⟩ := hsv.form
          replace g4 := bl.keep g4
          have cO := r3of_held _ r.l wl (hsv.keepB bl)
          have HL := Lib.hid (And.intro hL (And.intro oBl (And.intro hg (And.intro hr (And.intro hl hok)))))
          clear hL oBl hg hr hl hrec hsv
          go_wp2_with fail
          refine cO.mono ?_
          rintro e wt (⟨_, p0, rfl, ht, qt⟩ | ⟨h0, _⟩)
          · obtain ⟨p, _, _, _, _, rfl, _⟩ := ht.now
            obtain ⟨hL, oBl, hg, hr, hl, _⟩ := HL.out
            have oBt := qt.obj oBl
            have y3 := obj_cell oBt 4
            have qa : B wt (wt.alloc (.cells #[.pointer (some ⟨p, 0, none⟩)] 162)) := (B.refl _).alloc _ _
            have hownA := own_keepBx (own_keepBx hL.row qt) qa
            have oBa := qa.obj oBt
            have hbA : k2 ≤ (wt.alloc (.cells #[.pointer (some ⟨p, 0, none⟩)] 162)).heap.size := by have h1 := hg.size; have h2 := qt.below.size; have h3 := qa.below.size; omega
            have hfar := farF2 oBa hownA (by decide)
            obtain ⟨i0, hi0', hz0, hz1, hz2⟩ := info_of ptInfo
            have hl1 : i + 1 ≤ maxLen := by unfold maxLen; omega
            have hl2 : (i + 1) * 8 ≤ 140737488355328 := by omega
            have HA := Lib.hid (And.intro oBa (And.intro qa (And.intro qt (And.intro ht hownA))))
            clear hL oBl hg hr hl oBt qa ht qt cO bl
            go_wp2_with (at_builtin; refine wpList_append_lies _ rfl _ _ 159 rfl k2 162 i0 (.pointer none) 1 8 Tryd.underlying159 hi0' hz0 hz1 hz2 rfl (by omega) _ i ps rfl hownA ⟨wt.heap.size, 0, none⟩ 1 1 [.pointer (some ⟨p, 0, none⟩)] rfl rfl (news_plain rfl) (by simp [Value.oneCell']) (by omega) hl1 hl2 hbA _ rfl ?_; intro gN cN w9 hownN hgrowN hatN hltN; have oB9 := obj_grown hgrowN oBa hfar; have y9 := obj_cell oB9 4; have z9 := obj_free oB9 4)
            obtain ⟨hL, oBl, hg, hr, hl, _⟩ := HL.out
            obtain ⟨_, qa, qt, ht, _⟩ := HA.out
            have hM := hL.more hr (obj_lt oBl) qt ht qa hownN hgrowN hatN
            have gp : G (fun k => k = b) w9 (w9.setCell ⟨b, 4, none⟩ (.slice (some ⟨gN, 0, none⟩) (i + 1) cN)) := one_own _ _ _ _
            have hM2 := hM.put oB9 (by decide) gp
            have oB10 : (w9.setCell ⟨b, 4, none⟩ (.slice (some ⟨gN, 0, none⟩) (i + 1) cN)).heap[b]? = some (.cells #[.slice ao d.ws.length ac, .slice (some xa) d.ts.length bc, .slice co d.fs.length cc, .slice uo d.ws.length uc, (.slice (some ⟨gN, 0, none⟩) (i + 1) cN)] 161 (0, 0)) := by simpa using obj_set oB9 4 (.slice (some ⟨gN, 0, none⟩) (i + 1) cN)
            have hg10 : G (fun k => k = b) W2 (w9.setCell ⟨b, 4, none⟩ (.slice (some ⟨gN, 0, none⟩) (i + 1) cN)) := (((hg.trans (qt.g _)).trans (qa.g _)).grown hgrowN (fun k hk => .inr (by have := (hL.row.lt k hk).1; rw [hk2]; exact this))).trans gp
            have HZ := Lib.hid (And.intro hM2 (And.intro oB10 (And.intro hg10 hl)))
            clear hM hM2 oB10 hg10 gp hL oBl hg hr hl qa qt ht hownN hgrowN hatN hltN oB9 y9 z9 HL HA hownA
            go_roundw
            case rel => exact ⟨i + 1, _, _, by have := HZ.out.2.2.2; omega, by go_num, HZ.out.1, HZ.out.2.1, HZ.out.2.2.1⟩
            case measure => have := HZ.out.2.2.2; simp [intOf]; omega
          · have := HL.out.2.2.2.2.2
            rw [this] at h0
            cases h0
        · have hlB : decide ((i : Int) < (d.ts.length : Int)) = false := decide_eq_false (by omega)
          have hlN : decide (i < d.ts.length) = false := decide_eq_false hl
          obtain rfl : i = d.ts.length := by omega
          obtain ⟨hL1, _⟩ := H1.out
          have hL1w := hL1.put oB2 (by decide) hg
          have hbl := obj_lt oBl
          have hRB : Held (RBt d b (.slice ao d.ws.length ac) (.slice bo d.ts.length bc) (.slice co d.fs.length cc)) b wl.heap.size wl := ⟨⟨_, _, _, _, oBl, hL1w.cells rfl, hL.cells rfl⟩, Nat.le_refl _, fun w' hb => ⟨_, _, _, _, (hb b (Nat.le_refl _) hbl).trans oBl, hL1w.cellsAt rfl hb (by omega), hL.cellsAt rfl hb (by omega)⟩⟩
          have HZ := Lib.hid (And.intro (hRB.wide hwb (Nat.le_refl _) (Nat.le_refl _)) bl)
          clear hRB hL hL1 hL1w oBl hg bl oDl
          go_wp2
          go_ret2
          exact ⟨b, rfl, by rw [hDbe]; exact HZ.out.1, HZ.out.2⟩
end Go.Proofs.YtjdkhobkdlldnaaDoor

namespace Go.Proofs.YtjdkhobkdlldnaaDoor
open Go.RowKit
set_option linter.unusedVariables false
def Brd (d : Dk) (w0 w' : World) (e : Ending) : Prop := ∃ (P : Bp) (X : List Th) (b : Nat) (wv tv fv : Value), e = .returned (.tuple #[.pointer (some ⟨P.b, 0, none⟩), .pointer (some ⟨b, 0, none⟩), .bool true]) ∧ P.d = d ∧ BoardM P w' 0 [] X ∧ IsDk w' wv tv fv d ∧ RBt d b wv tv fv w' ∧ B w0 w'
set_option maxRecDepth 100000 in
set_option maxHeartbeats 2000000 in
theorem boards13_any (a b c d : Int) (lv : Value) (ll : List Nat) (h20 : ll.length ≤ 20) (ha : 0 ≤ a ∧ a ≤ 255) (hb : 0 ≤ b ∧ b ≤ 255) (hc : 0 ≤ c ∧ c ≤ 255) (hd : 0 ≤ d ∧ d ≤ 255) (w : World) (hU : IsU32s w lv ll) :
    Calls Tryd.prog 19 #[.int .u8 a, .int .u8 b, .int .u8 c, .int .u8 d, lv] w fun e w' => Brd (seatD a b c d ll) w w' e := by
  have cD := deck_any a b c d lv ll h20 ha hb hc hd w hU
  have hR := seat_right ha hb hc hd ll
  have hF : (seatD a b c d ll).fs.length < 1000 := by have := fillsF_len (wares7 a b c d) ll 0; show (fillsF _ _ _).length < 1000; omega
  obtain ⟨ao, cap, rfl, hlm, _⟩ := hU
  obtain ⟨ln, hln⟩ : ∃ ln, ll.length = ln := ⟨_, rfl⟩
  rw [hln] at cD ⊢
  generalize seatD a b c d ll = D at *
  clear ha hb hc hd hlm hln h20
  go_enter Tryd.func19, Tryd.ntmps19
  go_wp2_with fail
  refine cD.mono ?_
  rintro e w1 ⟨wv, tv, fv, rfl, hD, q1⟩
  obtain ⟨a1, c1, a2, c2, a3, c3, rfl, rfl, rfl⟩ := hD.forms
  have q2 : B w1 (w1.alloc (.cells #[.slice a1 D.ws.length c1, .slice a2 D.ts.length c2, .slice a3 D.fs.length c3] 33)) := (B.refl w1).alloc _ _
  have oD := obj_new w1 (.cells #[.slice a1 D.ws.length c1, .slice a2 D.ts.length c2, .slice a3 D.fs.length c3] 33)
  have hD2 := hD.keepB q2
  have hDF := fun w' (q : B (w1.alloc (.cells #[.slice a1 D.ws.length c1, .slice a2 D.ts.length c2, .slice a3 D.fs.length c3] 33)) w') => And.intro (hD2.keepB q) (q.obj oD)
  have cN := dnew_right _ _ _ D _ hD2 hR hF
  have cR := fun w' (q : B (w1.alloc (.cells #[.slice a1 D.ws.length c1, .slice a2 D.ts.length c2, .slice a3 D.fs.length c3] 33)) w') => r11new_any _ _ _ D w' (hD2.keepB q) hR
  have k0 := obj_cell oD 0
  have k1 := obj_cell oD 1
  have k2 := obj_cell oD 2
  have q12 := q1.trans q2
  have HD := Lib.hid hDF
  clear hD hD2 hDF q1 q2 oD cD
  generalize hn1 : D.ws.length = n1 at *
  generalize hn2 : D.ts.length = n2 at *
  generalize hn3 : D.fs.length = n3 at *
  clear hn1 hn2 hn3
  go_wp2_with fail
  generalize w1.alloc (.cells #[.slice a1 n1 c1, .slice a2 n2 c2, .slice a3 n3 c3] 33) = w2 at *
  generalize w1.heap.size = DB at *
  refine cN.mono ?_
  rintro e w3 ⟨P, X, rfl, hPd, hM, hlo, _, q3⟩
  obtain ⟨_, oD3⟩ := HD.out _ q3
  have j0 := obj_cell oD3 0
  have j1 := obj_cell oD3 1
  have j2 := obj_cell oD3 2
  have cR3 := cR _ q3
  have HM := Lib.hid (And.intro hPd (And.intro hM (And.intro (q12.trans q3) q3)))
  clear cN cR oD3 hPd hM hlo k0 k1 k2 q12
  go_wp2_with fail
  refine cR3.mono ?_
  rintro e w4 ⟨rb, rfl, hH, q4⟩
  have HF := Lib.hid (And.intro hH.now q4)
  clear cR3 hH q4
  go_wp2_with fail
  try simp only [Exit.inBlock, Exit.then]
  go_ret3
  exact ⟨P, X, rb, _, _, _, rfl, HM.out.1, HM.out.2.1.keepB HF.out.2, (HD.out _ (HM.out.2.2.2.trans HF.out.2)).1, HF.out.1, HM.out.2.2.1.trans HF.out.2⟩
theorem OpsRes.okd {d : Dk} {L : List Sp} {w w' : World} {e : Ending} {st : XSt} (h : OpsRes d L w e w') (hk : opsX d L = .ok st) : ∃ o1 c1 o2 c2, e = .returned (.tuple #[.slice o1 st.ops.length c1, .slice o2 st.of.length c2, .int .i64 0, .int .i64 0]) ∧
    w'.ownsRow w.heap.size 64 9 (.slice o1 st.ops.length c1) st.ops.length (flatOp st.ops) ∧ w'.ownsRow w.heap.size 3 1 (.slice o2 st.of.length c2) st.of.length (flatI st.of) ∧ B w w' := by
  rcases h with ⟨st', o1, c1, o2, c2, h1, h2, h3, h4, h5⟩ | ⟨i, n, h1, _⟩
  · rw [hk] at h1
    cases h1
    exact ⟨o1, c1, o2, c2, h2, h3, h4, h5⟩
  · rw [hk] at h1; cases h1
theorem OpsRes.erd {d : Dk} {L : List Sp} {w w' : World} {e : Ending} {i n : Nat} (h : OpsRes d L w e w') (hk : opsX d L = .error (i, n)) : e = .returned (.tuple #[.slice none 0 0, .slice none 0 0, .int .i64 (i : Int), .int .i64 (n : Int)]) ∧ B w w' := by
  rcases h with ⟨st', o1, c1, o2, c2, h1, _⟩ | ⟨i', n', h1, h2, h3⟩
  · rw [hk] at h1; cases h1
  · rw [hk] at h1
    cases h1
    exact ⟨h2, h3⟩
/-- Steps in a row, their wells anywhere. -/
theorem sps_own {w : World} {base : Nat} {v : Value} {S : List Sp} {vs : List Value} {n : Nat} (hl : vs.length = S.length) (hown : w.ownsRow base 27 5 v n (flatSp S vs)) (hn : n = S.length) (hr : ∀ (j : Nat) u s, vs[j]? = some u → S[j]? = some s → IsWps w u s.w) : IsSps w v S := by
  subst hn
  rcases hown.2 with ⟨h0, h1⟩ | ⟨g, cap, cur, rfl, _, _, h1, h2, _⟩
  · exact .inl ⟨h0, List.length_eq_zero_iff.1 (by omega)⟩
  · refine .inr ⟨⟨g, 0, none⟩, cap, rfl, h1, h2, fun i s hs => ?_⟩
    have hi : i < S.length := (List.getElem?_eq_some_iff.1 hs).1
    obtain ⟨u, hu⟩ : ∃ u, vs[i]? = some u := ⟨_, List.getElem?_eq_getElem (by rw [hl]; exact hi)⟩
    have hc : ∀ k, k < 5 → w.cell? ⟨g, i * 5 + k, none⟩ = (s.cells u)[k]? := fun k hk => by
      rw [hown.cellAt (i * 5 + k) (by omega)]
      exact flatSp_get S vs i k s u hl hs hu hk
    have ha : (⟨g, 0, none⟩ : Addr).add (i * 5) = ⟨g, i * 5, none⟩ := addz g (i * 5)
    rw [ha]
    exact ⟨hc 0 (by omega), hc 1 (by omega), ⟨u, hc 2 (by omega), hr i u s hu hs⟩, hc 3 (by omega), hc 4 (by omega)⟩
theorem wps_nil (w : World) : IsWps w (.slice none 0 0) [] := .inl ⟨rfl, rfl⟩
/-- Wells of a literal in new memory. -/
theorem wps_lit (w : World) (l : List Wp) (hl : l.length ≤ 1000) : IsWps (w.alloc (.cells (flatWp l).toArray 36)) (.slice (some ⟨w.heap.size, 0, none⟩) l.length l.length) l :=
  isWps_own (World.ownsRow_lit (base := w.heap.size) w _ _ (Nat.le_refl _) (by unfold maxLen; omega) (by simp [flatWp_len]))
def knW : Sp := ⟨5, ⟨#[]⟩, [⟨namePlate, 0, 0⟩], 9, 3⟩
def knL1 : List Sp := [⟨0, nameT1, [], 0, 0⟩, knW]
def knL2 : List Sp := [⟨1, ⟨#[]⟩, [], 0, 0⟩, knW]
def knD : Dk := seatD 0 1 0 1 [7, 7]
def knO (b : Bool) : Opx := ⟨⟨namePlate, 0, 0⟩, ⟨namePlate, 0, 0⟩, 9, nameT1, b⟩
theorem kn_ops : opsX knD knL1 = .ok ⟨nameT1, false, [knO true, knO false, knO false], [1, 1, 1]⟩ := by kernel_rfl
theorem kn_err : opsX knD knL2 = .error (1, 28) := by kernel_rfl
end Go.Proofs.YtjdkhobkdlldnaaDoor

namespace Go.Proofs.YtjdkhobkdlldnaaDoor
open Go.RowKit
set_option linter.unusedVariables false
theorem u32s_77 (w : World) : IsU32s (w.alloc (.cells #[.int .u32 7, .int .u32 7] 57)) (.slice (some ⟨w.heap.size, 0, none⟩) 2 2) [7, 7] := by
  refine ⟨some ⟨w.heap.size, 0, none⟩, 2, rfl, by decide, fun i x hx => ?_⟩
  have o := obj_new w (.cells #[.int .u32 7, .int .u32 7] 57)
  match i, hx with
  | 0, hx => obtain rfl : 7 = x := by simpa using hx
             exact ⟨by decide, w.heap.size, 0, rfl, obj_cell o 0⟩
  | 1, hx => obtain rfl : 7 = x := by simpa using hx
             exact ⟨by decide, w.heap.size, 0, rfl, obj_cell o 1⟩
  | n + 2, hx => simp at hx
/-- Two steps of a literal: one without wells, one of one well. -/
theorem sps_two (w : World) (s1 s2 : Sp) (p : Wp) (h1 : s1.w = []) (h2 : s2.w = [p]) :
    IsSps ((w.alloc (.cells (flatWp [p]).toArray 36)).alloc (.cells (flatSp [s1, s2] [.slice none 0 0, .slice (some ⟨w.heap.size, 0, none⟩) 1 1]).toArray 27)) (.slice (some ⟨w.heap.size + 1, 0, none⟩) 2 2) [s1, s2] := by
  have hz : (w.alloc (.cells (flatWp [p]).toArray 36)).heap.size = w.heap.size + 1 := by simp
  have hw := wps_lit w [p] (by simp)
  have hown := World.ownsRow_lit (base := w.heap.size) (e := 27) (size := 5) (w.alloc (.cells (flatWp [p]).toArray 36)) (flatSp [s1, s2] [.slice none 0 0, .slice (some ⟨w.heap.size, 0, none⟩) 1 1]).toArray 2 (by omega) (by decide) rfl
  rw [hz] at hown
  refine sps_own (vs := [.slice none 0 0, .slice (some ⟨w.heap.size, 0, none⟩) 1 1]) rfl hown rfl fun j u s hu hs => ?_
  match j, hu, hs with
  | 0, hu, hs =>
    cases hu
    cases hs
    rw [h1]
    exact wps_nil _
  | 1, hu, hs =>
    cases hu
    cases hs
    rw [h2]
    exact hw.keepB ((B.refl _).alloc _ _)
  | n + 2, hu, hs => simp at hu
set_option maxRecDepth 100000 in
set_option maxHeartbeats 2000000 in
theorem known13_any (w : World) : Calls Tryd.prog 18 #[] w fun e w' => e = .returned (.bool true) ∧ B w w' := by
  have q0 : B w (w.alloc (.cells #[.int .u32 7, .int .u32 7] 57)) := (B.refl w).alloc _ _
  have cB := boards13_any 0 1 0 1 _ [7, 7] (by decide) (by decide) (by decide) (by decide) (by decide) _ (u32s_77 w)
  have HQ := Lib.hid q0
  clear q0
  go_enter Tryd.func18, Tryd.ntmps18
  go_wp2_with fail
  refine cB.mono ?_
  rintro e w1 ⟨P, X, b, wv, tv, fv, rfl, hPd, hM, _, _, q1⟩
  have c1 := fun w' (q : B w1 w') lv hL => xops_any knD hPd w' (hM.keepB q) (by show (fillsF _ _ _).length ≤ _; have := fillsF_len (wares7 0 1 0 1) [7, 7] 0; simp at this; omega) lv knL1 hL (by intro s hs; simp only [knL1, List.mem_cons, List.not_mem_nil, or_false] at hs; rcases hs with rfl | rfl <;> (intro p hp; simp [knW] at hp; try (subst hp; unfold I64; simp)))
  have c2 := fun w' (q : B w1 w') lv hL => xops_any knD hPd w' (hM.keepB q) (by show (fillsF _ _ _).length ≤ _; have := fillsF_len (wares7 0 1 0 1) [7, 7] 0; simp at this; omega) lv knL2 hL (by intro s hs; simp only [knL2, List.mem_cons, List.not_mem_nil, or_false] at hs; rcases hs with rfl | rfl <;> (intro p hp; simp [knW] at hp; try (subst hp; unfold I64; simp)))
  have HP := Lib.hid (And.intro hPd (HQ.out.trans q1))
  generalize P.b = pb at *
  clear hM cB q1 HQ
  go_wp2_with fail
  have cc := c1 _ (((B.refl w1).alloc _ _).alloc _ _) _ (sps_two w1 ⟨0, nameT1, [], 0, 0⟩ knW ⟨namePlate, 0, 0⟩ rfl rfl)
  refine Calls.mono cc ?_
  rintro e w2 hR
  obtain ⟨o1, k1, o2, k2, rfl, r1, r2, q2⟩ := hR.okd kn_ops
  clear hR cc c1
  simp only [List.length_cons, List.length_nil, Nat.zero_add, Nat.reduceAdd] at r1 r2 ⊢
  obtain ⟨g1, rfl, _, _, _⟩ := own_full r1 (by omega)
  obtain ⟨g2, rfl, _, _, _⟩ := own_full r2 (by omega)
  have y0 : w2.cell? ⟨g1, 8, none⟩ = some (.bool true) := r1.cellAt 8 (by omega)
  have y1 : w2.cell? ⟨g1, 17, none⟩ = some (.bool false) := r1.cellAt 17 (by omega)
  have y2 : w2.cell? ⟨g2, 2, none⟩ = some (.int .i64 1) := r2.cellAt 2 (by omega)
  have hb12 : B w1 w2 := B.trans (((B.refl w1).alloc _ _).alloc _ _) q2
  have HR := Lib.hid hb12
  clear r1 r2 q2 hb12
  go_wp2_with fail
  have cd := c2 _ (HR.out.trans (((B.refl w2).alloc _ _).alloc _ _)) _ (sps_two w2 ⟨1, ⟨#[]⟩, [], 0, 0⟩ knW ⟨namePlate, 0, 0⟩ rfl rfl)
  refine Calls.mono cd ?_
  rintro e w3 hR
  obtain ⟨rfl, q3⟩ := hR.erd kn_err
  clear hR cd c2
  have hb23 : B w2 w3 := B.trans (((B.refl w2).alloc _ _).alloc _ _) q3
  have z0 := hb23.keep y0
  have z1 := hb23.keep y1
  have z2 := hb23.keep y2
  have HZ := Lib.hid (HP.out.2.trans (HR.out.trans hb23))
  clear y0 y1 y2 hb23 q3
  go_wp2_with fail
  try go_quiet (fail)
  try go_wp2
  try simp only [Exit.inBlock, Exit.then]
  go_ret
  exact ⟨rfl, HZ.out⟩
end Go.Proofs.YtjdkhobkdlldnaaDoor

namespace Go.Proofs.YtjdkhobkdlldnaaDoor
open Go.RowKit
set_option linter.unusedVariables false
theorem flatSp_app : ∀ (S T : List Sp) (vs us : List Value), vs.length = S.length → us.length = T.length → flatSp (S ++ T) (vs ++ us) = flatSp S vs ++ flatSp T us
  | [], T, [], us, _, _ => rfl
  | [], _, _ :: _, _, h, _ => by simp at h
  | _ :: _, _, [], _, h, _ => by simp at h
  | s :: S, T, v :: vs, us, h, h2 => by
    show s.cells v ++ flatSp (S ++ T) (vs ++ us) = (s.cells v ++ flatSp S vs) ++ flatSp T us
    rw [flatSp_app S T vs us (by simpa using h) h2, List.append_assoc]
structure StS (w : World) (base : Nat) (sv : Value) (S : List Sp) (vs : List Value) : Prop where
  sl : vs.length = S.length
  so : w.ownsRow base 27 5 sv S.length (flatSp S vs)
  sr : ∀ (j : Nat) u s, vs[j]? = some u → S[j]? = some s → w.ownsRow base 36 3 u s.w.length (flatWp s.w)
section
variable {w w' : World} {base : Nat} {sv : Value} {S T : List Sp} {vs us : List Value}
theorem StS.nil (w : World) (base : Nat) : StS w base (.slice none 0 0) [] [] := ⟨rfl, World.ownsRow_nil _ _ _ _, fun j u s h => by simp at h⟩
theorem StS.keep (h : StS w base sv S vs) (q : B w w') : StS w' base sv S vs := ⟨h.sl, row_keep h.so q, fun j u s hu hs => row_keep (h.sr j u s hu hs) q⟩
theorem StS.is (h : StS w base sv S vs) : IsSps w sv S := sps_own h.sl h.so rfl fun j u s hu hs => isWps_own (h.sr j u s hu hs)
theorem StS.add {sv' : Value} {n m : Nat} (h : StS w base sv S vs) (hn : S.length = n) (hg : w.grownBy w' sv.ownBlock) (hT : T.length = m) (hl : us.length = T.length) (ho : w'.ownsRow base 27 5 sv' (n + m) (flatSp S vs ++ flatSp T us))
    (hu : ∀ (j : Nat) u s, us[j]? = some u → T[j]? = some s → w.ownsRow base 36 3 u s.w.length (flatWp s.w)) : StS w' base sv' (S ++ T) (vs ++ us) := by
  subst hn hT
  refine ⟨by rw [List.length_append, List.length_append, h.sl, hl], ?_, fun j u s h1 h2 => ?_⟩
  · rw [flatSp_app _ _ _ _ h.sl hl, List.length_append]
    exact ho
  · by_cases hj : j < S.length
    · rw [List.getElem?_append_left (by rw [h.sl]; exact hj)] at h1
      rw [List.getElem?_append_left hj] at h2
      exact own_grownU (h.sr j u s h1 h2) hg h.so (by decide)
    · rw [List.getElem?_append_right (by rw [h.sl]; omega), h.sl] at h1
      rw [List.getElem?_append_right (by omega)] at h2
      exact own_grownU (hu _ u s h1 h2) hg h.so (by decide)
theorem well_own (w : World) (base : Nat) (hb : base ≤ w.heap.size) (l : List Wp) (hl : l.length ≤ 1000) : (w.alloc (.cells (flatWp l).toArray 36)).ownsRow base 36 3 (.slice (some ⟨w.heap.size, 0, none⟩) l.length l.length) l.length (flatWp l) :=
  World.ownsRow_lit (base := base) w _ _ hb (by unfold maxLen; omega) (by simp [flatWp_len])
end
theorem stepI13 : (Tryd.prog.info? 27).map (fun i => (i.zero, i.size, i.bytes)) = some (some (.agg #[.int .i64 0, .string ⟨#[]⟩, .slice none 0 0, .int .i64 0, .int .i64 0]), 5, 64) := by kernel_rfl
end Go.Proofs.YtjdkhobkdlldnaaDoor
