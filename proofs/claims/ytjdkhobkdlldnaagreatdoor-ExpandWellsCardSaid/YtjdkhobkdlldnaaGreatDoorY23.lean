/-
  The document's boards: New; Layer 13's boards: the program's and the document's of a deck of numbers; Layer 13: the statements' known answers; Layer 13: steps of a statement's own making, in a row that the call owns, their wells in others; The statements' steps of pieces: right ones. No program is named here but for the deck's own texts; ExpandWells' steps: they go well up to the one that is put in; Steps copied into a row that the call owns, and bent there. No program is named here.
-/
import Derived.Deep.QuietTactic
import Derived.BigQuiet
import Derived.Deep.AppendLies
import Derived.Laws.OwnMore
import Derived.Laws.Strings2
import Derived.Laws.Slices
import Derived.KernelRfl
import Derived.Test.YtjdkhobkdlldnaaGreatDoorY1
import Derived.Test.YtjdkhobkdlldnaaGreatDoorY2
import Derived.Test.YtjdkhobkdlldnaaGreatDoorY3
import Derived.Test.YtjdkhobkdlldnaaGreatDoorY4
import Derived.Test.YtjdkhobkdlldnaaGreatDoorY5
import Derived.Test.YtjdkhobkdlldnaaGreatDoorY6
import Derived.Test.YtjdkhobkdlldnaaGreatDoorY7
import Derived.Test.YtjdkhobkdlldnaaGreatDoorY8
import Derived.Test.YtjdkhobkdlldnaaGreatDoorY9
import Derived.Test.YtjdkhobkdlldnaaGreatDoorY10
import Derived.Test.YtjdkhobkdlldnaaGreatDoorY11
import Derived.Test.YtjdkhobkdlldnaaGreatDoorY12
import Derived.Test.YtjdkhobkdlldnaaGreatDoorY13
import Derived.Test.YtjdkhobkdlldnaaGreatDoorY14
import Derived.Test.YtjdkhobkdlldnaaGreatDoorY15
import Derived.Test.YtjdkhobkdlldnaaGreatDoorY16
import Derived.Test.YtjdkhobkdlldnaaGreatDoorY17
import Derived.Test.YtjdkhobkdlldnaaGreatDoorY18
import Derived.Test.YtjdkhobkdlldnaaGreatDoorY19
import Derived.Test.YtjdkhobkdlldnaaGreatDoorY20
import Derived.Test.YtjdkhobkdlldnaaGreatDoorY21
import Derived.Test.YtjdkhobkdlldnaaGreatDoorY22
namespace Go.Proofs.YtjdkhobkdlldnaaGreatDoor
open Go.RowKit
set_option linter.unusedVariables false
set_option maxRecDepth 100000 in
set_option maxHeartbeats 4000000 in
theorem r11new_any (wv tv fv : Value) (d : Dk) (w : World) (h : IsDk w wv tv fv d) (hr : rightD d = true) : Calls Tryz.prog 57 #[.agg #[wv, tv, fv]] w fun e w' => ∃ b, e = .returned (.tuple #[.pointer (some ⟨b, 0, none⟩), .int .i64 0]) ∧ Held (RBt d b wv tv fv) w.heap.size w'.heap.size w' ∧ B w w' := by
  obtain ⟨p8, p4, pW, pT⟩ := right_parts9 hr
  have hWr : ∀ r ∈ d.ws, rightS r.l = true := fun r hm => by
    obtain ⟨i, hi⟩ := List.getElem?_of_mem hm
    exact wareOk_right (apart_at pW hi).1
  have hTr : ∀ r ∈ d.ts, rightS r.l = true := fun r hm => by
    obtain ⟨i, hi⟩ := List.getElem?_of_mem hm
    exact tipOk_right (apart_at pT hi).1
  obtain ⟨ao, ac, bo, bc, co, cc, rfl, rfl, rfl⟩ := h.forms
  have q0 : B w (w.alloc (.cells #[.slice ao d.ws.length ac, .slice bo d.ts.length bc, .slice co d.fs.length cc] 26)) := (B.refl w).alloc _ _
  have oD := obj_new w (.cells #[.slice ao d.ws.length ac, .slice bo d.ts.length bc, .slice co d.fs.length cc] 26)
  have cR := r8deckright_any _ _ _ d _ (h.keepB q0)
  rw [hr] at cR
  have hnot : ∀ (x : Bool) (w : World), (Op.unary .not (.bool x)).run Tryz.prog w = .ok (.bool (!x)) w := fun _ _ => rfl
  go_enter Tryz.func57, Tryz.ntmps57
  go_wp2_with fail
  generalize w.alloc (.cells #[.slice ao d.ws.length ac, .slice bo d.ts.length bc, .slice co d.fs.length cc] 26) = w0 at *
  refine cR.mono ?_
  rintro e w1 ⟨rfl, q1⟩
  have oDa := q1.obj oD
  have k0 := obj_cell oDa 0
  have k1' := obj_cell oDa 1
  have k2' := obj_cell oDa 2
  have qb : B w1 (w1.alloc (.cells #[.slice ao d.ws.length ac, .slice bo d.ts.length bc, .slice co d.fs.length cc, .slice none 0 0, .slice none 0 0] 64)) := (B.refl _).alloc _ _
  have oB1 := obj_new w1 (.cells #[.slice ao d.ws.length ac, .slice bo d.ts.length bc, .slice co d.fs.length cc, .slice none 0 0, .slice none 0 0] 64)
  have oD1 := qb.obj oDa
  have b1 := (q0.trans q1).trans qb
  have hwb : w.heap.size ≤ w1.heap.size := (q0.trans q1).below.size
  have hDb := obj_lt oDa
  clear cR q0 q1 oD qb oDa
  go_wp2_with fail
  generalize w1.alloc (.cells #[.slice ao d.ws.length ac, .slice bo d.ts.length bc, .slice co d.fs.length cc, .slice none 0 0, .slice none 0 0] 64) = W1 at *
  generalize w1.heap.size = b at *
  generalize hDbe : w.heap.size = Db at *
  obtain ⟨k1, hk1⟩ : ∃ k, W1.heap.size = k := ⟨_, rfl⟩
  have hbk := obj_lt oB1
  clear k0 k1' k2'
  go_loopw [5] (fun iv wr => ∃ (i : Nat) (sv : Value) (ps : List Value), i ≤ d.ws.length ∧ iv = .int .i64 i ∧ RbL d.ws k1 b wr sv ps i ∧ wr.heap[b]? = some (.cells #[.slice ao d.ws.length ac, .slice bo d.ts.length bc, .slice co d.fs.length cc, sv, .slice none 0 0] 64 (0, 0)) ∧ G (fun k => k = b) W1 wr) (fun iv _ => d.ws.length + 1 - (intOf iv).toNat)
  case atStart => exact ⟨0, .slice none 0 0, [], Nat.zero_le _, rfl, RbL.start _ _ _ _, oB1, G.refl _ _⟩
  case round =>
    obtain ⟨i, sv, ps, hi, rfl, hL, oBl, hg⟩ := hrel
    obtain ⟨wl, rfl⟩ : ∃ wl : World, wl = wr := ⟨_, rfl⟩
    obtain ⟨so, sc, rfl⟩ := ownsRow_form hL.row
    have oDl := hg.obj (by show ¬ Db = b; omega) oD1
    have d0 := obj_cell oDl 0
    have bl := hg.b b1 (fun i hi => by subst hi; rw [hDbe]; exact hwb)
    by_cases hl : i < d.ws.length
    · have hlB : decide ((i : Int) < (d.ws.length : Int)) = true := decide_eq_true (by omega)
      have hlN : decide (i < d.ws.length) = true := decide_eq_true hl
      have hi0 : (0 : Int) ≤ (i : Int) := by omega
      have hiI : (i : Int) < (d.ws.length : Int) := by omega
      have wk1 : IntKind.i64.wrap ((i : Int) + 1) = (i : Int) + 1 := by rw [IntKind.wrap_i64]; omega
      obtain ⟨xa, xc, hxa, _, _, hrec⟩ := h.ws.at_ hl
      simp only [Value.slice.injEq, true_and] at hxa
      obtain ⟨rfl, rfl⟩ := hxa
      have hr : d.ws[i]? = some d.ws[i] := List.getElem?_eq_getElem hl
      have hok := hWr _ (List.mem_of_getElem? hr)
      generalize d.ws[i] = r at *
      obtain ⟨v, g4, hsv⟩ := hrec.l
      obtain ⟨vo, vn, vc, rfl⟩ := hsv.form
      replace g4 := bl.keep g4
      have cO := r3of_held _ r.l wl (hsv.keepB bl)
      have HL := Lib.hid (And.intro hL (And.intro oBl (And.intro hg (And.intro hr (And.intro hl hok)))))
      clear hL oBl hg hr hl hrec hsv
      go_wp2_with fail
      refine cO.mono ?_
      rintro e wt (⟨_, p0, rfl, ht, qt⟩ | ⟨h0, _⟩)
      · obtain ⟨p, _, _, _, _, rfl, _⟩ := ht.now
        obtain ⟨hL, oBl, hg, hr, hl, _⟩ := HL.out
        have oBt := qt.obj oBl
        have y3 := obj_cell oBt 3
        have qa : B wt (wt.alloc (.cells #[.pointer (some ⟨p, 0, none⟩)] 179)) := (B.refl _).alloc _ _
        have hownA := own_keepBx (own_keepBx hL.row qt) qa
        have oBa := qa.obj oBt
        have hbA : k1 ≤ (wt.alloc (.cells #[.pointer (some ⟨p, 0, none⟩)] 179)).heap.size := by have h1 := hg.size; have h2 := qt.below.size; have h3 := qa.below.size; omega
        have hfar := farF2 oBa hownA (by decide)
        obtain ⟨i0, hi0', hz0, hz1, hz2⟩ := info_of ptInfo
        have hl1 : i + 1 ≤ maxLen := by unfold maxLen; omega
        have hl2 : (i + 1) * 8 ≤ 140737488355328 := by omega
        have HA := Lib.hid (And.intro oBa (And.intro qa (And.intro qt (And.intro ht hownA))))
        clear hL oBl hg hr hl oBt qa ht qt cO bl
        go_wp2_with (at_builtin; refine wpList_append_lies _ rfl _ _ 62 rfl k1 179 i0 (.pointer none) 1 8 Tryz.underlying62 hi0' hz0 hz1 hz2 rfl (by omega) _ i ps rfl hownA ⟨wt.heap.size, 0, none⟩ 1 1 [.pointer (some ⟨p, 0, none⟩)] rfl rfl (news_plain rfl) (by simp [Value.oneCell']) (by omega) hl1 hl2 hbA _ rfl ?_; intro gN cN w9 hownN hgrowN hatN hltN; have oB9 := obj_grown hgrowN oBa hfar; have y9 := obj_cell oB9 3; have z9 := obj_free oB9 3)
        obtain ⟨hL, oBl, hg, hr, hl, _⟩ := HL.out
        obtain ⟨_, qa, qt, ht, _⟩ := HA.out
        have hM := hL.more hr (obj_lt oBl) qt ht qa hownN hgrowN hatN
        have gp : G (fun k => k = b) w9 (w9.setCell ⟨b, 3, none⟩ (.slice (some ⟨gN, 0, none⟩) (i + 1) cN)) := one_own _ _ _ _
        have hM2 := hM.put oB9 (by decide) gp
        have oB10 : (w9.setCell ⟨b, 3, none⟩ (.slice (some ⟨gN, 0, none⟩) (i + 1) cN)).heap[b]? = some (.cells #[.slice (some xa) d.ws.length ac, .slice bo d.ts.length bc, .slice co d.fs.length cc, (.slice (some ⟨gN, 0, none⟩) (i + 1) cN), .slice none 0 0] 64 (0, 0)) := by simpa using obj_set oB9 3 (.slice (some ⟨gN, 0, none⟩) (i + 1) cN)
        have hg10 : G (fun k => k = b) W1 (w9.setCell ⟨b, 3, none⟩ (.slice (some ⟨gN, 0, none⟩) (i + 1) cN)) := (((hg.trans (qt.g _)).trans (qa.g _)).grown hgrowN (fun k hk => .inr (by have := (hL.row.lt k hk).1; rw [hk1]; exact this))).trans gp
        have HZ := Lib.hid (And.intro hM2 (And.intro oB10 (And.intro hg10 hl)))
        clear hM hM2 oB10 hg10 gp hL oBl hg hr hl qa qt ht hownN hgrowN hatN hltN oB9 y9 z9 HL HA hownA
        go_roundw
        case rel => exact ⟨i + 1, _, _, by have := HZ.out.2.2.2; omega, by go_num, HZ.out.1, HZ.out.2.1, HZ.out.2.2.1⟩
        case measure => have := HZ.out.2.2.2; simp [intOf]; omega
      · have := HL.out.2.2.2.2.2
        rw [this] at h0
        cases h0
    · have hlB : decide ((i : Int) < (d.ws.length : Int)) = false := decide_eq_false (by omega)
      have hlN : decide (i < d.ws.length) = false := decide_eq_false hl
      obtain rfl : i = d.ws.length := by omega
      obtain ⟨W2, rfl⟩ : ∃ W2 : World, W2 = wl := ⟨_, rfl⟩
      have oD2 := oDl
      have oB2 := oBl
      have b2 := bl
      have hL1 := hL
      obtain ⟨uo, rfl⟩ : ∃ o, o = so := ⟨_, rfl⟩
      obtain ⟨uc, rfl⟩ : ∃ o, o = sc := ⟨_, rfl⟩
      obtain ⟨ps1, rfl⟩ : ∃ o, o = ps := ⟨_, rfl⟩
      obtain ⟨k2, hk2⟩ : ∃ k, W2.heap.size = k := ⟨_, rfl⟩
      have hk12 : k1 ≤ k2 := by have := hg.size; omega
      have H1 := Lib.hid (And.intro hL1 oBl)
      clear hL oDl oBl bl hg hL1
      have d1 := obj_cell oD2 1
      go_wp2_with fail
      clear hlB hlN hl hi d0
      go_loopw [8] (fun iv wr => ∃ (i : Nat) (sv : Value) (ps : List Value), i ≤ d.ts.length ∧ iv = .int .i64 i ∧ RbL d.ts k2 b wr sv ps i ∧ wr.heap[b]? = some (.cells #[.slice ao d.ws.length ac, .slice bo d.ts.length bc, .slice co d.fs.length cc, .slice uo d.ws.length uc, sv] 64 (0, 0)) ∧ G (fun k => k = b) W2 wr) (fun iv _ => d.ts.length + 1 - (intOf iv).toNat)
      case atStart => exact ⟨0, .slice none 0 0, [], Nat.zero_le _, rfl, RbL.start _ _ _ _, oB2, G.refl _ _⟩
      case round =>
        obtain ⟨i, sv, ps, hi, rfl, hL, oBl, hg⟩ := hrel
        obtain ⟨wl, rfl⟩ : ∃ wl : World, wl = wr := ⟨_, rfl⟩
        obtain ⟨so, sc, rfl⟩ := ownsRow_form hL.row
        have oDl := hg.obj (by show ¬ Db = b; omega) oD2
        have d0 := obj_cell oDl 1
        have bl := hg.b b2 (fun i hi => by subst hi; rw [hDbe]; exact hwb)
        by_cases hl : i < d.ts.length
        · have hlB : decide ((i : Int) < (d.ts.length : Int)) = true := decide_eq_true (by omega)
          have hlN : decide (i < d.ts.length) = true := decide_eq_true hl
          have hi0 : (0 : Int) ≤ (i : Int) := by omega
          have hiI : (i : Int) < (d.ts.length : Int) := by omega
          have wk1 : IntKind.i64.wrap ((i : Int) + 1) = (i : Int) + 1 := by rw [IntKind.wrap_i64]; omega
          obtain ⟨xa, xc, hxa, _, _, hrec⟩ := h.ts.at_ hl
          simp only [Value.slice.injEq, true_and] at hxa
          obtain ⟨rfl, rfl⟩ := hxa
          have hr : d.ts[i]? = some d.ts[i] := List.getElem?_eq_getElem hl
          have hok := hTr _ (List.mem_of_getElem? hr)
          generalize d.ts[i] = r at *
          obtain ⟨v, g4, hsv⟩ := hrec.l
          obtain ⟨vo, vn, vc, rfl⟩ := hsv.form
          replace g4 := bl.keep g4
          have cO := r3of_held _ r.l wl (hsv.keepB bl)
          have HL := Lib.hid (And.intro hL (And.intro oBl (And.intro hg (And.intro hr (And.intro hl hok)))))
          clear hL oBl hg hr hl hrec hsv
          go_wp2_with fail
          refine cO.mono ?_
          rintro e wt (⟨_, p0, rfl, ht, qt⟩ | ⟨h0, _⟩)
          · obtain ⟨p, _, _, _, _, rfl, _⟩ := ht.now
            obtain ⟨hL, oBl, hg, hr, hl, _⟩ := HL.out
            have oBt := qt.obj oBl
            have y3 := obj_cell oBt 4
            have qa : B wt (wt.alloc (.cells #[.pointer (some ⟨p, 0, none⟩)] 179)) := (B.refl _).alloc _ _
            have hownA := own_keepBx (own_keepBx hL.row qt) qa
            have oBa := qa.obj oBt
            have hbA : k2 ≤ (wt.alloc (.cells #[.pointer (some ⟨p, 0, none⟩)] 179)).heap.size := by have h1 := hg.size; have h2 := qt.below.size; have h3 := qa.below.size; omega
            have hfar := farF2 oBa hownA (by decide)
            obtain ⟨i0, hi0', hz0, hz1, hz2⟩ := info_of ptInfo
            have hl1 : i + 1 ≤ maxLen := by unfold maxLen; omega
            have hl2 : (i + 1) * 8 ≤ 140737488355328 := by omega
            have HA := Lib.hid (And.intro oBa (And.intro qa (And.intro qt (And.intro ht hownA))))
            clear hL oBl hg hr hl oBt qa ht qt cO bl
            go_wp2_with (at_builtin; refine wpList_append_lies _ rfl _ _ 62 rfl k2 179 i0 (.pointer none) 1 8 Tryz.underlying62 hi0' hz0 hz1 hz2 rfl (by omega) _ i ps rfl hownA ⟨wt.heap.size, 0, none⟩ 1 1 [.pointer (some ⟨p, 0, none⟩)] rfl rfl (news_plain rfl) (by simp [Value.oneCell']) (by omega) hl1 hl2 hbA _ rfl ?_; intro gN cN w9 hownN hgrowN hatN hltN; have oB9 := obj_grown hgrowN oBa hfar; have y9 := obj_cell oB9 4; have z9 := obj_free oB9 4)
            obtain ⟨hL, oBl, hg, hr, hl, _⟩ := HL.out
            obtain ⟨_, qa, qt, ht, _⟩ := HA.out
            have hM := hL.more hr (obj_lt oBl) qt ht qa hownN hgrowN hatN
            have gp : G (fun k => k = b) w9 (w9.setCell ⟨b, 4, none⟩ (.slice (some ⟨gN, 0, none⟩) (i + 1) cN)) := one_own _ _ _ _
            have hM2 := hM.put oB9 (by decide) gp
            have oB10 : (w9.setCell ⟨b, 4, none⟩ (.slice (some ⟨gN, 0, none⟩) (i + 1) cN)).heap[b]? = some (.cells #[.slice ao d.ws.length ac, .slice (some xa) d.ts.length bc, .slice co d.fs.length cc, .slice uo d.ws.length uc, (.slice (some ⟨gN, 0, none⟩) (i + 1) cN)] 64 (0, 0)) := by simpa using obj_set oB9 4 (.slice (some ⟨gN, 0, none⟩) (i + 1) cN)
            have hg10 : G (fun k => k = b) W2 (w9.setCell ⟨b, 4, none⟩ (.slice (some ⟨gN, 0, none⟩) (i + 1) cN)) := (((hg.trans (qt.g _)).trans (qa.g _)).grown hgrowN (fun k hk => .inr (by have := (hL.row.lt k hk).1; rw [hk2]; exact this))).trans gp
            have HZ := Lib.hid (And.intro hM2 (And.intro oB10 (And.intro hg10 hl)))
            clear hM hM2 oB10 hg10 gp hL oBl hg hr hl qa qt ht hownN hgrowN hatN hltN oB9 y9 z9 HL HA hownA
            go_roundw
            case rel => exact ⟨i + 1, _, _, by have := HZ.out.2.2.2; omega, by go_num, HZ.out.1, HZ.out.2.1, HZ.out.2.2.1⟩
            case measure => have := HZ.out.2.2.2; simp [intOf]; omega
          · have := HL.out.2.2.2.2.2
            rw [this] at h0
            cases h0
        · have hlB : decide ((i : Int) < (d.ts.length : Int)) = false := decide_eq_false (by omega)
          have hlN : decide (i < d.ts.length) = false := decide_eq_false hl
          obtain rfl : i = d.ts.length := by omega
          obtain ⟨hL1, _⟩ := H1.out
          have hL1w := hL1.put oB2 (by decide) hg
          have hbl := obj_lt oBl
          have hRB : Held (RBt d b (.slice ao d.ws.length ac) (.slice bo d.ts.length bc) (.slice co d.fs.length cc)) b wl.heap.size wl := ⟨⟨_, _, _, _, oBl, hL1w.cells rfl, hL.cells rfl⟩, Nat.le_refl _, fun w' hb => ⟨_, _, _, _, (hb b (Nat.le_refl _) hbl).trans oBl, hL1w.cellsAt rfl hb (by omega), hL.cellsAt rfl hb (by omega)⟩⟩
          have HZ := Lib.hid (And.intro (hRB.wide hwb (Nat.le_refl _) (Nat.le_refl _)) bl)
          clear hRB hL hL1 hL1w oBl hg bl oDl
          go_wp2
          go_ret2
          exact ⟨b, rfl, by rw [hDbe]; exact HZ.out.1, HZ.out.2⟩
end Go.Proofs.YtjdkhobkdlldnaaGreatDoor

namespace Go.Proofs.YtjdkhobkdlldnaaGreatDoor
open Go.RowKit
set_option linter.unusedVariables false
def Brd (d : Dk) (w0 w' : World) (e : Ending) : Prop := ∃ (P : Bp) (X : List Th) (b : Nat) (wv tv fv : Value), e = .returned (.tuple #[.pointer (some ⟨P.b, 0, none⟩), .pointer (some ⟨b, 0, none⟩), .bool true]) ∧ P.d = d ∧ BoardM P w' 0 [] X ∧ IsDk w' wv tv fv d ∧ RBt d b wv tv fv w' ∧ B w0 w'
set_option maxRecDepth 100000 in
set_option maxHeartbeats 2000000 in
theorem boards13_any (a b c d : Int) (lv : Value) (ll : List Nat) (h20 : ll.length ≤ 20) (ha : 0 ≤ a ∧ a ≤ 255) (hb : 0 ≤ b ∧ b ≤ 255) (hc : 0 ≤ c ∧ c ≤ 255) (hd : 0 ≤ d ∧ d ≤ 255) (w : World) (hU : IsU32s w lv ll) :
    Calls Tryz.prog 17 #[.int .u8 a, .int .u8 b, .int .u8 c, .int .u8 d, lv] w fun e w' => Brd (seatD a b c d ll) w w' e := by
  have cD := deck_any a b c d lv ll h20 ha hb hc hd w hU
  have hR := seat_right ha hb hc hd ll
  have hF : (seatD a b c d ll).fs.length < 1000 := by have := fillsF_len (wares7 a b c d) ll 0; show (fillsF _ _ _).length < 1000; omega
  obtain ⟨ao, cap, rfl, hlm, _⟩ := hU
  obtain ⟨ln, hln⟩ : ∃ ln, ll.length = ln := ⟨_, rfl⟩
  rw [hln] at cD ⊢
  generalize seatD a b c d ll = D at *
  clear ha hb hc hd hlm hln h20
  go_enter Tryz.func17, Tryz.ntmps17
  go_wp2_with fail
  refine cD.mono ?_
  rintro e w1 ⟨wv, tv, fv, rfl, hD, q1⟩
  obtain ⟨a1, c1, a2, c2, a3, c3, rfl, rfl, rfl⟩ := hD.forms
  have q2 : B w1 (w1.alloc (.cells #[.slice a1 D.ws.length c1, .slice a2 D.ts.length c2, .slice a3 D.fs.length c3] 26)) := (B.refl w1).alloc _ _
  have oD := obj_new w1 (.cells #[.slice a1 D.ws.length c1, .slice a2 D.ts.length c2, .slice a3 D.fs.length c3] 26)
  have hD2 := hD.keepB q2
  have hDF := fun w' (q : B (w1.alloc (.cells #[.slice a1 D.ws.length c1, .slice a2 D.ts.length c2, .slice a3 D.fs.length c3] 26)) w') => And.intro (hD2.keepB q) (q.obj oD)
  have cN := dnew_right _ _ _ D _ hD2 hR hF
  have cR := fun w' (q : B (w1.alloc (.cells #[.slice a1 D.ws.length c1, .slice a2 D.ts.length c2, .slice a3 D.fs.length c3] 26)) w') => r11new_any _ _ _ D w' (hD2.keepB q) hR
  have k0 := obj_cell oD 0
  have k1 := obj_cell oD 1
  have k2 := obj_cell oD 2
  have q12 := q1.trans q2
  have HD := Lib.hid hDF
  clear hD hD2 hDF q1 q2 oD cD
  generalize hn1 : D.ws.length = n1 at *
  generalize hn2 : D.ts.length = n2 at *
  generalize hn3 : D.fs.length = n3 at *
  clear hn1 hn2 hn3
  go_wp2_with fail
  generalize w1.alloc (.cells #[.slice a1 n1 c1, .slice a2 n2 c2, .slice a3 n3 c3] 26) = w2 at *
  generalize w1.heap.size = DB at *
  refine cN.mono ?_
  rintro e w3 ⟨P, X, rfl, hPd, hM, hlo, _, q3⟩
  obtain ⟨_, oD3⟩ := HD.out _ q3
  have j0 := obj_cell oD3 0
  have j1 := obj_cell oD3 1
  have j2 := obj_cell oD3 2
  have cR3 := cR _ q3
  have HM := Lib.hid (And.intro hPd (And.intro hM (And.intro (q12.trans q3) q3)))
  clear cN cR oD3 hPd hM hlo k0 k1 k2 q12
  go_wp2_with fail
  refine cR3.mono ?_
  rintro e w4 ⟨rb, rfl, hH, q4⟩
  have HF := Lib.hid (And.intro hH.now q4)
  clear cR3 hH q4
  go_wp2_with fail
  try simp only [Exit.inBlock, Exit.then]
  go_ret3
  exact ⟨P, X, rb, _, _, _, rfl, HM.out.1, HM.out.2.1.keepB HF.out.2, (HD.out _ (HM.out.2.2.2.trans HF.out.2)).1, HF.out.1, HM.out.2.2.1.trans HF.out.2⟩
theorem OpsRes.okd {d : Dk} {L : List Sp} {w w' : World} {e : Ending} {st : XSt} (h : OpsRes d L w e w') (hk : opsX d L = .ok st) : ∃ o1 c1 o2 c2, e = .returned (.tuple #[.slice o1 st.ops.length c1, .slice o2 st.of.length c2, .int .i64 0, .int .i64 0]) ∧
    w'.ownsRow w.heap.size 124 9 (.slice o1 st.ops.length c1) st.ops.length (flatOp st.ops) ∧ w'.ownsRow w.heap.size 3 1 (.slice o2 st.of.length c2) st.of.length (flatI st.of) ∧ B w w' := by
  rcases h with ⟨st', o1, c1, o2, c2, h1, h2, h3, h4, h5⟩ | ⟨i, n, h1, _⟩
  · rw [hk] at h1
    cases h1
    exact ⟨o1, c1, o2, c2, h2, h3, h4, h5⟩
  · rw [hk] at h1; cases h1
theorem OpsRes.erd {d : Dk} {L : List Sp} {w w' : World} {e : Ending} {i n : Nat} (h : OpsRes d L w e w') (hk : opsX d L = .error (i, n)) : e = .returned (.tuple #[.slice none 0 0, .slice none 0 0, .int .i64 (i : Int), .int .i64 (n : Int)]) ∧ B w w' := by
  rcases h with ⟨st', o1, c1, o2, c2, h1, _⟩ | ⟨i', n', h1, h2, h3⟩
  · rw [hk] at h1; cases h1
  · rw [hk] at h1
    cases h1
    exact ⟨h2, h3⟩
/-- Steps in a row, their wells anywhere. -/
theorem sps_own {w : World} {base : Nat} {v : Value} {S : List Sp} {vs : List Value} {n : Nat} (hl : vs.length = S.length) (hown : w.ownsRow base 67 5 v n (flatSp S vs)) (hn : n = S.length) (hr : ∀ (j : Nat) u s, vs[j]? = some u → S[j]? = some s → IsWps w u s.w) : IsSps w v S := by
  subst hn
  rcases hown.2 with ⟨h0, h1⟩ | ⟨g, cap, cur, rfl, _, _, h1, h2, _⟩
  · exact .inl ⟨h0, List.length_eq_zero_iff.1 (by omega)⟩
  · refine .inr ⟨⟨g, 0, none⟩, cap, rfl, h1, h2, fun i s hs => ?_⟩
    have hi : i < S.length := (List.getElem?_eq_some_iff.1 hs).1
    obtain ⟨u, hu⟩ : ∃ u, vs[i]? = some u := ⟨_, List.getElem?_eq_getElem (by rw [hl]; exact hi)⟩
    have hc : ∀ k, k < 5 → w.cell? ⟨g, i * 5 + k, none⟩ = (s.cells u)[k]? := fun k hk => by
      rw [hown.cellAt (i * 5 + k) (by omega)]
      exact flatSp_get S vs i k s u hl hs hu hk
    have ha : (⟨g, 0, none⟩ : Addr).add (i * 5) = ⟨g, i * 5, none⟩ := addz g (i * 5)
    rw [ha]
    exact ⟨hc 0 (by omega), hc 1 (by omega), ⟨u, hc 2 (by omega), hr i u s hu hs⟩, hc 3 (by omega), hc 4 (by omega)⟩
theorem wps_nil (w : World) : IsWps w (.slice none 0 0) [] := .inl ⟨rfl, rfl⟩
/-- Wells of a literal in new memory. -/
theorem wps_lit (w : World) (l : List Wp) (hl : l.length ≤ 1000) : IsWps (w.alloc (.cells (flatWp l).toArray 39)) (.slice (some ⟨w.heap.size, 0, none⟩) l.length l.length) l :=
  isWps_own (World.ownsRow_lit (base := w.heap.size) w _ _ (Nat.le_refl _) (by unfold maxLen; omega) (by simp [flatWp_len]))
def knW : Sp := ⟨5, ⟨#[]⟩, [⟨namePlate, 0, 0⟩], 9, 3⟩
def knL1 : List Sp := [⟨0, nameT1, [], 0, 0⟩, knW]
def knL2 : List Sp := [⟨1, ⟨#[]⟩, [], 0, 0⟩, knW]
def knD : Dk := seatD 0 1 0 1 [7, 7]
def knO (b : Bool) : Opx := ⟨⟨namePlate, 0, 0⟩, ⟨namePlate, 0, 0⟩, 9, nameT1, b⟩
theorem kn_ops : opsX knD knL1 = .ok ⟨nameT1, false, [knO true, knO false, knO false], [1, 1, 1]⟩ := by kernel_rfl
theorem kn_err : opsX knD knL2 = .error (1, 28) := by kernel_rfl
end Go.Proofs.YtjdkhobkdlldnaaGreatDoor

namespace Go.Proofs.YtjdkhobkdlldnaaGreatDoor
open Go.RowKit
set_option linter.unusedVariables false
theorem u32s_77 (w : World) : IsU32s (w.alloc (.cells #[.int .u32 7, .int .u32 7] 83)) (.slice (some ⟨w.heap.size, 0, none⟩) 2 2) [7, 7] := by
  refine ⟨some ⟨w.heap.size, 0, none⟩, 2, rfl, by decide, fun i x hx => ?_⟩
  have o := obj_new w (.cells #[.int .u32 7, .int .u32 7] 83)
  match i, hx with
  | 0, hx => obtain rfl : 7 = x := by simpa using hx
             exact ⟨by decide, w.heap.size, 0, rfl, obj_cell o 0⟩
  | 1, hx => obtain rfl : 7 = x := by simpa using hx
             exact ⟨by decide, w.heap.size, 0, rfl, obj_cell o 1⟩
  | n + 2, hx => simp at hx
/-- Two steps of a literal: one without wells, one of one well. -/
theorem sps_two (w : World) (s1 s2 : Sp) (p : Wp) (h1 : s1.w = []) (h2 : s2.w = [p]) :
    IsSps ((w.alloc (.cells (flatWp [p]).toArray 39)).alloc (.cells (flatSp [s1, s2] [.slice none 0 0, .slice (some ⟨w.heap.size, 0, none⟩) 1 1]).toArray 67)) (.slice (some ⟨w.heap.size + 1, 0, none⟩) 2 2) [s1, s2] := by
  have hz : (w.alloc (.cells (flatWp [p]).toArray 39)).heap.size = w.heap.size + 1 := by simp
  have hw := wps_lit w [p] (by simp)
  have hown := World.ownsRow_lit (base := w.heap.size) (e := 67) (size := 5) (w.alloc (.cells (flatWp [p]).toArray 39)) (flatSp [s1, s2] [.slice none 0 0, .slice (some ⟨w.heap.size, 0, none⟩) 1 1]).toArray 2 (by omega) (by decide) rfl
  rw [hz] at hown
  refine sps_own (vs := [.slice none 0 0, .slice (some ⟨w.heap.size, 0, none⟩) 1 1]) rfl hown rfl fun j u s hu hs => ?_
  match j, hu, hs with
  | 0, hu, hs =>
    cases hu
    cases hs
    rw [h1]
    exact wps_nil _
  | 1, hu, hs =>
    cases hu
    cases hs
    rw [h2]
    exact hw.keepB ((B.refl _).alloc _ _)
  | n + 2, hu, hs => simp at hu
set_option maxRecDepth 100000 in
set_option maxHeartbeats 2000000 in
theorem known13_any (w : World) : Calls Tryz.prog 16 #[] w fun e w' => e = .returned (.bool true) ∧ B w w' := by
  have q0 : B w (w.alloc (.cells #[.int .u32 7, .int .u32 7] 83)) := (B.refl w).alloc _ _
  have cB := boards13_any 0 1 0 1 _ [7, 7] (by decide) (by decide) (by decide) (by decide) (by decide) _ (u32s_77 w)
  have HQ := Lib.hid q0
  clear q0
  go_enter Tryz.func16, Tryz.ntmps16
  go_wp2_with fail
  refine cB.mono ?_
  rintro e w1 ⟨P, X, b, wv, tv, fv, rfl, hPd, hM, _, _, q1⟩
  have c1 := fun w' (q : B w1 w') lv hL => xops_any knD hPd w' (hM.keepB q) (by show (fillsF _ _ _).length ≤ _; have := fillsF_len (wares7 0 1 0 1) [7, 7] 0; simp at this; omega) lv knL1 hL (by intro s hs; simp only [knL1, List.mem_cons, List.not_mem_nil, or_false] at hs; rcases hs with rfl | rfl <;> (intro p hp; simp [knW] at hp; try (subst hp; unfold I64; simp)))
  have c2 := fun w' (q : B w1 w') lv hL => xops_any knD hPd w' (hM.keepB q) (by show (fillsF _ _ _).length ≤ _; have := fillsF_len (wares7 0 1 0 1) [7, 7] 0; simp at this; omega) lv knL2 hL (by intro s hs; simp only [knL2, List.mem_cons, List.not_mem_nil, or_false] at hs; rcases hs with rfl | rfl <;> (intro p hp; simp [knW] at hp; try (subst hp; unfold I64; simp)))
  have HP := Lib.hid (And.intro hPd (HQ.out.trans q1))
  generalize P.b = pb at *
  clear hM cB q1 HQ
  go_wp2_with fail
  have cc := c1 _ (((B.refl w1).alloc _ _).alloc _ _) _ (sps_two w1 ⟨0, nameT1, [], 0, 0⟩ knW ⟨namePlate, 0, 0⟩ rfl rfl)
  refine Calls.mono cc ?_
  rintro e w2 hR
  obtain ⟨o1, k1, o2, k2, rfl, r1, r2, q2⟩ := hR.okd kn_ops
  clear hR cc c1
  simp only [List.length_cons, List.length_nil, Nat.zero_add, Nat.reduceAdd] at r1 r2 ⊢
  obtain ⟨g1, rfl, _, _, _⟩ := own_full r1 (by omega)
  obtain ⟨g2, rfl, _, _, _⟩ := own_full r2 (by omega)
  have y0 : w2.cell? ⟨g1, 8, none⟩ = some (.bool true) := r1.cellAt 8 (by omega)
  have y1 : w2.cell? ⟨g1, 17, none⟩ = some (.bool false) := r1.cellAt 17 (by omega)
  have y2 : w2.cell? ⟨g2, 2, none⟩ = some (.int .i64 1) := r2.cellAt 2 (by omega)
  have hb12 : B w1 w2 := B.trans (((B.refl w1).alloc _ _).alloc _ _) q2
  have HR := Lib.hid hb12
  clear r1 r2 q2 hb12
  go_wp2_with fail
  have cd := c2 _ (HR.out.trans (((B.refl w2).alloc _ _).alloc _ _)) _ (sps_two w2 ⟨1, ⟨#[]⟩, [], 0, 0⟩ knW ⟨namePlate, 0, 0⟩ rfl rfl)
  refine Calls.mono cd ?_
  rintro e w3 hR
  obtain ⟨rfl, q3⟩ := hR.erd kn_err
  clear hR cd c2
  have hb23 : B w2 w3 := B.trans (((B.refl w2).alloc _ _).alloc _ _) q3
  have z0 := hb23.keep y0
  have z1 := hb23.keep y1
  have z2 := hb23.keep y2
  have HZ := Lib.hid (HP.out.2.trans (HR.out.trans hb23))
  clear y0 y1 y2 hb23 q3
  go_wp2_with fail
  try go_quiet (fail)
  try go_wp2
  try simp only [Exit.inBlock, Exit.then]
  go_ret
  exact ⟨rfl, HZ.out⟩
end Go.Proofs.YtjdkhobkdlldnaaGreatDoor

namespace Go.Proofs.YtjdkhobkdlldnaaGreatDoor
open Go.RowKit
set_option linter.unusedVariables false
theorem flatSp_app : ∀ (S T : List Sp) (vs us : List Value), vs.length = S.length → us.length = T.length → flatSp (S ++ T) (vs ++ us) = flatSp S vs ++ flatSp T us
  | [], T, [], us, _, _ => rfl
  | [], _, _ :: _, _, h, _ => by simp at h
  | _ :: _, _, [], _, h, _ => by simp at h
  | s :: S, T, v :: vs, us, h, h2 => by
    show s.cells v ++ flatSp (S ++ T) (vs ++ us) = (s.cells v ++ flatSp S vs) ++ flatSp T us
    rw [flatSp_app S T vs us (by simpa using h) h2, List.append_assoc]
structure StS (w : World) (base : Nat) (sv : Value) (S : List Sp) (vs : List Value) : Prop where
  sl : vs.length = S.length
  so : w.ownsRow base 67 5 sv S.length (flatSp S vs)
  sr : ∀ (j : Nat) u s, vs[j]? = some u → S[j]? = some s → w.ownsRow base 39 3 u s.w.length (flatWp s.w)
section
variable {w w' : World} {base : Nat} {sv : Value} {S T : List Sp} {vs us : List Value}
theorem StS.nil (w : World) (base : Nat) : StS w base (.slice none 0 0) [] [] := ⟨rfl, World.ownsRow_nil _ _ _ _, fun j u s h => by simp at h⟩
theorem StS.keep (h : StS w base sv S vs) (q : B w w') : StS w' base sv S vs := ⟨h.sl, row_keep h.so q, fun j u s hu hs => row_keep (h.sr j u s hu hs) q⟩
theorem StS.is (h : StS w base sv S vs) : IsSps w sv S := sps_own h.sl h.so rfl fun j u s hu hs => isWps_own (h.sr j u s hu hs)
theorem StS.add {sv' : Value} {n m : Nat} (h : StS w base sv S vs) (hn : S.length = n) (hg : w.grownBy w' sv.ownBlock) (hT : T.length = m) (hl : us.length = T.length) (ho : w'.ownsRow base 67 5 sv' (n + m) (flatSp S vs ++ flatSp T us))
    (hu : ∀ (j : Nat) u s, us[j]? = some u → T[j]? = some s → w.ownsRow base 39 3 u s.w.length (flatWp s.w)) : StS w' base sv' (S ++ T) (vs ++ us) := by
  subst hn hT
  refine ⟨by rw [List.length_append, List.length_append, h.sl, hl], ?_, fun j u s h1 h2 => ?_⟩
  · rw [flatSp_app _ _ _ _ h.sl hl, List.length_append]
    exact ho
  · by_cases hj : j < S.length
    · rw [List.getElem?_append_left (by rw [h.sl]; exact hj)] at h1
      rw [List.getElem?_append_left hj] at h2
      exact own_grownU (h.sr j u s h1 h2) hg h.so (by decide)
    · rw [List.getElem?_append_right (by rw [h.sl]; omega), h.sl] at h1
      rw [List.getElem?_append_right (by omega)] at h2
      exact own_grownU (hu _ u s h1 h2) hg h.so (by decide)
theorem well_own (w : World) (base : Nat) (hb : base ≤ w.heap.size) (l : List Wp) (hl : l.length ≤ 1000) : (w.alloc (.cells (flatWp l).toArray 39)).ownsRow base 39 3 (.slice (some ⟨w.heap.size, 0, none⟩) l.length l.length) l.length (flatWp l) :=
  World.ownsRow_lit (base := base) w _ _ hb (by unfold maxLen; omega) (by simp [flatWp_len])
end
theorem stepI13 : (Tryz.prog.info? 67).map (fun i => (i.zero, i.size, i.bytes)) = some (some (.agg #[.int .i64 0, .string ⟨#[]⟩, .slice none 0 0, .int .i64 0, .int .i64 0]), 5, 64) := by kernel_rfl
end Go.Proofs.YtjdkhobkdlldnaaGreatDoor

namespace Go.Proofs.YtjdkhobkdlldnaaGreatDoor
open Go.RowKit
set_option linter.unusedVariables false
/-- A piece: of a protocol. -/
structure Pz where
  k : Nat
  a : Nat
  b : Nat
  c : Nat
  v : Nat
def wpAt (ws : List Wr) (i : Nat) : Wp := match atW ws (i : Int) with
  | some (n, r, c) => ⟨n, r, c⟩
  | none => ⟨⟨#[]⟩, 0, 0⟩
def pieceV (p : Pz) : Int := if p.v % 7 = 0 then ((p.v % 90000 + 1 : Nat) : Int) else ((p.v % 9000 + 1 : Nat) : Int)
def pieceW (ws : List Wr) (p : Pz) : List Wp := [wpAt ws (p.a % (countW ws).toNat), wpAt ws (p.b % (countW ws).toNat), wpAt ws (p.c % (countW ws).toNat)]
/-- A piece's step. -/
def pieceS (d : Dk) (p : Pz) : Sp :=
  if p.k % 10 = 0 then ⟨0, if p.a % 2 = 1 ∧ 2 ≤ d.ts.length then nameT2 else nameT1, [], 0, 0⟩
  else if p.k % 10 = 1 then ⟨1, ⟨#[]⟩, [], 0, ((p.a % 2 : Nat) : Int)⟩
  else if p.k % 10 = 2 then ⟨3, ⟨#[]⟩, pieceW d.ws p, pieceV p, 0⟩
  else if p.k % 10 = 3 then ⟨4, ⟨#[]⟩, pieceW d.ws p, pieceV p, 0⟩
  else if p.k % 10 = 4 then ⟨5, ⟨#[]⟩, (pieceW d.ws p).take 1, pieceV p, ((p.b % 3 + 1 : Nat) : Int)⟩
  else if p.k % 10 = 5 then ⟨6, ⟨#[]⟩, pieceW d.ws p, pieceV p, 0⟩
  else ⟨2, ⟨#[]⟩, (pieceW d.ws p).take 2, pieceV p, 0⟩
def seatSteps (d : Dk) (ps : List Pz) : List Sp := ⟨0, nameT1, [], 0, 0⟩ :: ps.map (pieceS d)
theorem at_some : ∀ (ws : List Wr) (k : Int), (∀ x ∈ ws, wareB x) → 0 ≤ k → k < countW ws → ∃ v ∈ ws, ∃ r c : Int, atW ws k = some (v.n, r, c) ∧ 0 ≤ r ∧ r < 8 ∧ 0 ≤ c ∧ c < 12
  | [], k, _, h0, h1 => by simp [countW] at h1; omega
  | w :: ws, k, hb, h0, h1 => by
    obtain ⟨b1, b2, b3, b4⟩ := hb w (List.mem_cons_self ..)
    rw [atW, if_neg (by omega)]
    by_cases h2 : k < w.x * w.y
    · rw [if_pos h2]
      have e1 := Int.emod_nonneg k (by omega : w.y ≠ 0)
      have e2 := Int.emod_lt_of_pos k (by omega : 0 < w.y)
      have e3 := Int.ediv_nonneg h0 (by omega : 0 ≤ w.y)
      have e4 : k / w.y < w.x := Int.ediv_lt_of_lt_mul (by omega) (by rw [Int.mul_comm] at h2; rw [Int.mul_comm]; exact h2)
      exact ⟨w, List.mem_cons_self .., _, _, rfl, e3, by omega, e1, by omega⟩
    · rw [if_neg h2]
      have h3 : countW (w :: ws) = w.x * w.y + countW ws := rfl
      obtain ⟨v, hv, r, c, h4⟩ := at_some ws (k - w.x * w.y) (fun x hx => hb x (List.mem_cons_of_mem _ hx)) (by omega) (by omega)
      exact ⟨v, List.mem_cons_of_mem _ hv, r, c, h4⟩
theorem wp_right {ws : List Wr} (hb : ∀ x ∈ ws, wareB x) (hn : ∀ x ∈ ws, nameS x.n = true) {i : Nat} (hi : (i : Int) < countW ws) : (wpAt ws i).t.isEmpty = false := by
  obtain ⟨v, hv, r, c, e, r0, r8, c0, c12⟩ := at_some ws i hb (by omega) hi
  unfold wpAt Wp.t
  rw [e]
  simp only
  unfold wellT
  rw [if_pos ⟨hn v hv, r0, r8, c0, c12⟩]
  simp
theorem piece_ok {d : Dk} (hb : ∀ x ∈ d.ws, wareB x) (hn : ∀ x ∈ d.ws, nameS x.n = true) (hc : 0 < countW d.ws) (p : Pz) : stepOk (pieceS d p) = true := by
  have hm : ∀ i : Nat, ((i % (countW d.ws).toNat : Nat) : Int) < countW d.ws := fun i => by
    have := Nat.mod_lt i (show 0 < (countW d.ws).toNat by omega)
    omega
  have hw : ∀ q ∈ pieceW d.ws p, q.t.isEmpty = false := fun q hq => by
    unfold pieceW at hq
    simp only [List.mem_cons, List.not_mem_nil, or_false] at hq
    rcases hq with rfl | rfl | rfl <;> exact wp_right hb hn (hm _)
  have ok : ∀ l : List Wp, (∀ q ∈ l, q ∈ pieceW d.ws p) → wellsOk l = true := fun l hl => by
    unfold wellsOk
    rw [List.all_eq_true]
    intro q hq
    rw [hw q (hl q hq)]
    rfl
  have hV : inB (pieceV p) 1 20000000 = true := by
    rw [inB_iff]
    unfold pieceV
    split <;> omega
  have hlen : (pieceW d.ws p).length = 3 := rfl
  have t1 : ((pieceW d.ws p).take 1).length = 1 := rfl
  have t2 : ((pieceW d.ws p).take 2).length = 2 := rfl
  have hE : (({ data := #[] } : ByteArray).toList == []) = true := by rw [toList_data]; rfl
  unfold pieceS stepOk
  split
  · simp only [wellsOk, List.all_nil, Bool.true_and]
    unfold stepK
    simp only [if_true]
    split <;> rfl
  split
  · simp only [wellsOk, List.all_nil, Bool.true_and]
    unfold stepK
    have h2 : p.a % 2 = 0 ∨ p.a % 2 = 1 := by omega
    rcases h2 with h2 | h2 <;> rw [h2] <;> simp
  split
  · rw [ok _ (fun _ h => h)]
    unfold stepK
    simp [hV, hlen]
  split
  · rw [ok _ (fun _ h => h)]
    unfold stepK
    simp [hV, hlen]
  split
  · rw [ok _ (fun _ h => List.mem_of_mem_take h)]
    unfold stepK
    have h3 : inB ((p.b % 3 + 1 : Nat) : Int) 1 20 = true := by rw [inB_iff]; omega
    simp only [hV, h3, t1, hE]
    simp
  split
  · rw [ok _ (fun _ h => h)]
    unfold stepK
    simp [hV, hlen]
  · rw [ok _ (fun _ h => List.mem_of_mem_take h)]
    unfold stepK
    simp only [hV, t2, hE]
    simp
theorem seat_steps_ok {d : Dk} (hb : ∀ x ∈ d.ws, wareB x) (hn : ∀ x ∈ d.ws, nameS x.n = true) (hc : 0 < countW d.ws) {ps : List Pz} (hp : ps.length ≤ 100) : stepsOk (seatSteps d ps) = true ∧ ∀ s ∈ seatSteps d ps, stepOk s = true := by
  have h : ∀ s ∈ seatSteps d ps, stepOk s = true := fun s hs => by
    unfold seatSteps at hs
    rw [List.mem_cons] at hs
    rcases hs with rfl | hs
    · rfl
    · obtain ⟨p, _, rfl⟩ := List.mem_map.1 hs
      exact piece_ok hb hn hc p
  refine ⟨?_, h⟩
  unfold stepsOk
  rw [Bool.and_eq_true, decide_eq_true_eq, List.all_eq_true]
  exact ⟨by unfold seatSteps; simp; omega, h⟩
end Go.Proofs.YtjdkhobkdlldnaaGreatDoor

namespace Go.Proofs.YtjdkhobkdlldnaaGreatDoor
open Go.RowKit
set_option linter.unusedVariables false
def wlD : Dk := seatD 0 1 0 1 []
def wlX : Nat → Sp
  | 0 => ⟨2, ⟨#[]⟩, [⟨namePlate, 0, 0⟩, ⟨namePlate, 7, 0⟩], 5, 0⟩
  | 1 => ⟨5, ⟨#[]⟩, [⟨⟨#[110, 111, 110, 101]⟩, 0, 0⟩], 5, 1⟩
  | _ => ⟨0, ⟨#[116, 51]⟩, [], 0, 0⟩
theorem wl_count : countW wlD.ws = 4 := by kernel_rfl
theorem wlX_ok (k : Nat) : stepOk (wlX k) = true := by
  match k with
  | 0 => show stepOk ⟨2, ⟨#[]⟩, [⟨namePlate, 0, 0⟩, ⟨namePlate, 7, 0⟩], 5, 0⟩ = true; kernel_rfl
  | 1 => show stepOk ⟨5, ⟨#[]⟩, [⟨⟨#[110, 111, 110, 101]⟩, 0, 0⟩], 5, 1⟩ = true; kernel_rfl
  | n + 2 => show stepOk ⟨0, ⟨#[116, 51]⟩, [], 0, 0⟩ = true; kernel_rfl
/-- Steps that go well on that deck. -/
structure Fine (s : Sp) : Prop where
  use : s.k = 0 → tipIn wlD s.n = true ∧ (s.n.toList == ([] : List UInt8)) = false
  wel : s.w.all (inD wlD) = true
  few : s.k ≠ 0 → s.k ≠ 1 → (movesS s).length ≤ 3
theorem wl_at {i : Nat} (h : i < 4) : inD wlD (wpAt wlD.ws i) = true := by
  match i, h with
  | 0, _ => show inD wlD (wpAt wlD.ws 0) = true; kernel_rfl
  | 1, _ => show inD wlD (wpAt wlD.ws 1) = true; kernel_rfl
  | 2, _ => show inD wlD (wpAt wlD.ws 2) = true; kernel_rfl
  | 3, _ => show inD wlD (wpAt wlD.ws 3) = true; kernel_rfl
theorem wl_all (p : Pz) : (pieceW wlD.ws p).all (inD wlD) = true := by
  have hm : ∀ i : Nat, i % (countW wlD.ws).toNat < 4 := fun i => by rw [wl_count]; exact Nat.mod_lt _ (by decide)
  unfold pieceW
  simp [wl_at (hm p.a), wl_at (hm p.b), wl_at (hm p.c)]
theorem wl_tips (b : Bool) : tipIn wlD (if b then nameT2 else nameT1) = true ∧ ((if b then nameT2 else nameT1).toList == ([] : List UInt8)) = false := by
  cases b
  · exact ⟨by show tipIn wlD nameT1 = true; kernel_rfl, by show (nameT1.toList == ([] : List UInt8)) = false; kernel_rfl⟩
  · exact ⟨by show tipIn wlD nameT2 = true; kernel_rfl, by show (nameT2.toList == ([] : List UInt8)) = false; kernel_rfl⟩
theorem all_take {α : Type} {f : α → Bool} {l : List α} (h : l.all f = true) (n : Nat) : (l.take n).all f = true := by
  rw [List.all_eq_true] at h ⊢
  exact fun x hx => h x (List.mem_of_mem_take hx)
theorem piece_fine (p : Pz) : Fine (pieceS wlD p) := by
  have hw := wl_all p
  unfold pieceS
  split
  · refine ⟨fun _ => ?_, rfl, fun h => absurd rfl h⟩
    by_cases hc : p.a % 2 = 1 ∧ 2 ≤ wlD.ts.length
    · rw [if_pos hc]; exact wl_tips true
    · rw [if_neg hc]; exact wl_tips false
  · split
    · exact ⟨fun h => by simp at h, rfl, fun _ h => absurd rfl h⟩
    · split
      · exact ⟨fun h => by simp at h, hw, fun _ _ => by show (([_, _] : List Wp).map _).length ≤ 3; simp⟩
      · split
        · exact ⟨fun h => by simp at h, hw, fun _ _ => by show (([_, _] : List Wp).map _).length ≤ 3; simp⟩
        · split
          · refine ⟨fun h => by simp at h, all_take hw 1, fun _ _ => ?_⟩
            show (List.replicate (((p.b % 3 + 1 : Nat) : Int)).toNat _).length ≤ 3
            rw [List.length_replicate, Int.toNat_natCast]
            omega
          · split
            · exact ⟨fun h => by simp at h, hw, fun _ _ => by show (List.zipWith _ ([_, _, _] : List Wp) ([_, _] : List Wp)).length ≤ 3; simp⟩
            · exact ⟨fun h => by simp at h, all_take hw 2, fun _ _ => by show (([_] : List Wp).map _).length ≤ 3; simp⟩
theorem fine_step {s : Sp} (h : Fine s) (i : Nat) {st : XSt} (ht : (st.t.toList == ([] : List UInt8)) = false) (hl : st.ops.length + 3 ≤ 1000) :
    ∃ st', stepX wlD i s st = .ok st' ∧ (st'.t.toList == ([] : List UInt8)) = false ∧ st'.ops.length ≤ st.ops.length + 3 := by
  unfold stepX
  by_cases h0 : s.k = 0
  · rw [if_pos h0, (h.use h0).1]
    exact ⟨_, rfl, (h.use h0).2, by show st.ops.length ≤ _; omega⟩
  · rw [if_neg h0]
    by_cases h1 : s.k = 1
    · rw [if_pos h1]
      exact ⟨_, rfl, ht, by show st.ops.length ≤ _; omega⟩
    · have hf := h.few h0 h1
      rw [if_neg h1, ht, if_neg (by simp), h.wel, if_neg (by simp), if_neg (by omega)]
      exact ⟨_, rfl, ht, by show (_ ++ _ : List Opx).length ≤ _; rw [List.length_append, tagX_len]; omega⟩
theorem fine_run : ∀ (L : List Sp) (i : Nat) (st : XSt), (∀ s ∈ L, Fine s) → (st.t.toList == ([] : List UInt8)) = false → st.ops.length + 3 * L.length ≤ 1000 →
    ∃ st', runX wlD i L st = .ok st' ∧ (st'.t.toList == ([] : List UInt8)) = false ∧ st'.ops.length ≤ st.ops.length + 3 * L.length
  | [], i, st, _, ht, _ => ⟨st, rfl, ht, by simp⟩
  | s :: L, i, st, hf, ht, hl => by
    simp only [List.length_cons] at hl
    obtain ⟨s1, h1, h2, h3⟩ := fine_step (hf s (by simp)) i ht (by omega)
    obtain ⟨s2, h4, h5, h6⟩ := fine_run L (i + 1) s1 (fun x hx => hf x (by simp [hx])) h2 (by omega)
    refine ⟨s2, by rw [runX, h1]; exact h4, h5, by simp only [List.length_cons]; omega⟩
theorem wlX_err (k i : Nat) {st : XSt} (ht : (st.t.toList == ([] : List UInt8)) = false) : stepX wlD i (wlX k) st = .error (if k < 2 then 26 else 28) := by
  match k with
  | 0 =>
    unfold stepX wlX
    rw [if_neg (by simp), if_neg (by simp), ht, if_neg (by simp)]
    simp only
    rw [show ([⟨namePlate, 0, 0⟩, ⟨namePlate, 7, 0⟩] : List Wp).all (inD wlD) = false by kernel_rfl]
    rfl
  | 1 =>
    unfold stepX wlX
    rw [if_neg (by simp), if_neg (by simp), ht, if_neg (by simp)]
    simp only
    rw [show ([⟨⟨#[110, 111, 110, 101]⟩, 0, 0⟩] : List Wp).all (inD wlD) = false by kernel_rfl]
    rfl
  | n + 2 =>
    unfold stepX wlX
    rw [if_pos (by simp)]
    simp only
    rw [show tipIn wlD ⟨#[116, 51]⟩ = false by kernel_rfl, if_neg (by simp), if_neg (by omega)]
theorem wl_ops (ps : List Pz) (hps : ps.length ≤ 10) (i k : Nat) (hi : 1 ≤ i ∧ i ≤ (seatSteps wlD ps).length) (hok : ∀ s ∈ seatSteps wlD ps, stepOk s = true) :
    opsX wlD ((seatSteps wlD ps).take i ++ [wlX k] ++ (seatSteps wlD ps).drop i) = .error (i, if k < 2 then 26 else 28) := by
  have hlen : (seatSteps wlD ps).length = ps.length + 1 := by unfold seatSteps; simp
  have e1 : stepsOk ((seatSteps wlD ps).take i ++ [wlX k] ++ (seatSteps wlD ps).drop i) = true := by
    unfold stepsOk
    rw [Bool.and_eq_true]
    refine ⟨decide_eq_true (by simp only [List.length_append, List.length_take, List.length_drop, List.length_cons, List.length_nil]; omega), ?_⟩
    rw [List.all_eq_true]
    intro s hs
    rcases List.mem_append.1 hs with hs | hs
    · rcases List.mem_append.1 hs with hs | hs
      · exact hok s (List.mem_of_mem_take hs)
      · rw [List.mem_singleton.1 hs]; exact wlX_ok k
    · exact hok s (List.mem_of_mem_drop hs)
  unfold opsX
  rw [e1, if_pos rfl]
  obtain ⟨j, rfl⟩ : ∃ j, i = j + 1 := ⟨i - 1, by omega⟩
  have e2 : stepX wlD 0 ⟨0, nameT1, [], 0, 0⟩ xst0 = .ok { xst0 with t := nameT1 } := by
    unfold stepX
    rw [if_pos rfl]
    simp only
    rw [show tipIn wlD nameT1 = true by kernel_rfl]
    rfl
  obtain ⟨st, h1, h2, _⟩ := fine_run ((ps.map (pieceS wlD)).take j) 1 { xst0 with t := nameT1 } (fun s hs => by
    obtain ⟨p, _, rfl⟩ := List.mem_map.1 (List.mem_of_mem_take hs)
    exact piece_fine p) (by show (nameT1.toList == ([] : List UInt8)) = false; kernel_rfl) (by
    show 0 + 3 * _ ≤ 1000
    rw [List.length_take, List.length_map]
    omega)
  have hjl : ((ps.map (pieceS wlD)).take j).length = j := by rw [List.length_take, List.length_map]; omega
  show runX wlD 0 (⟨0, nameT1, [], 0, 0⟩ :: ((ps.map (pieceS wlD)).take j) ++ [wlX k] ++ _) xst0 = _
  rw [List.append_assoc, List.cons_append, runX, e2]
  simp only
  rw [runX_app wlD _ _ _ _ _ h1, hjl, List.singleton_append, runX, wlX_err k _ h2, Nat.add_comm 1 j]
end Go.Proofs.YtjdkhobkdlldnaaGreatDoor

namespace Go.Proofs.YtjdkhobkdlldnaaGreatDoor
open Go.RowKit
set_option linter.unusedVariables false
theorem IsWps.lt {w : World} {u : Value} {L : List Wp} (h : IsWps w u L) (hn : L ≠ []) {b : Nat} (hb : u.ownBlock = some b) : b < w.heap.size := by
  rcases h with ⟨_, h⟩ | ⟨a, cap, rfl, h2, h3, h4⟩
  · exact absurd h hn
  · obtain ⟨f, L', rfl⟩ := List.exists_cons_of_ne_nil hn
    have k := (h4 0 f rfl).n
    have hlt := World.block_lt_of_cell? w _ k
    have hab : (a.add (0 * 3)).block = a.block := by unfold Addr.add; split <;> rfl
    rw [hab] at hlt
    have : a.block = b := Option.some.inj hb
    omega
/-- Steps in a row that the call owns; the wells of those that have some lie elsewhere. -/
structure SpO (w : World) (base : Nat) (e : TypeId) (v : Value) (SS : List Sp) (vs : List Value) : Prop where
  len : vs.length = SS.length
  own : w.ownsRow base e 5 v SS.length (flatSp SS vs)
  row : ∀ (j : Nat) u s, vs[j]? = some u → SS[j]? = some s → IsWps w u s.w ∧ (s.w ≠ [] → v.ownBlock ≠ u.ownBlock)
theorem SpO.keep {w w' : World} {base : Nat} {e : TypeId} {v : Value} {SS : List Sp} {vs : List Value} (h : SpO w base e v SS vs) (q : B w w') : SpO w' base e v SS vs :=
  ⟨h.len, row_keep h.own q, fun j u s hu hs => ⟨(h.row j u s hu hs).1.keepB q, (h.row j u s hu hs).2⟩⟩
theorem addA (p : Addr) {i j : Nat} (h : 0 < j) : p.add (i + j) = ⟨(p.add i).block, (p.add i).off + j, none⟩ := by
  unfold Addr.add
  rw [if_neg (by omega)]
  split
  · rename_i h0
    subst h0
    simp
  · simp [Nat.add_assoc]
theorem IsSps.rowIn {w : World} {v : Value} {L : List Sp} (h : IsSps w v L) : ∃ vs, vs.length = L.length ∧ RowIn w v L.length (flatSp L vs) ∧ (∀ u ∈ flatSp L vs, u.oneCell' = true) ∧ ∀ (i : Nat) u s, vs[i]? = some u → L[i]? = some s → IsWps w u s.w := by
  have hone : ∀ (L : List Sp) (vs : List Value), (∀ u ∈ vs, u.oneCell' = true) → ∀ u ∈ flatSp L vs, u.oneCell' = true := by
    intro L
    induction L with
    | nil => intro vs _ u hu; simp [flatSp] at hu
    | cons s L ih =>
      intro vs hv u hu
      cases vs with
      | nil => simp [flatSp] at hu
      | cons x vs =>
        rcases List.mem_append.1 (show u ∈ s.cells x ++ flatSp L vs from hu) with hu | hu
        · simp only [Sp.cells, List.mem_cons, List.not_mem_nil, or_false] at hu
          rcases hu with rfl | rfl | rfl | rfl | rfl
          · rfl
          · rfl
          · exact hv _ (by simp)
          · rfl
          · rfl
        · exact ih vs (fun y hy => hv y (by simp [hy])) u hu
  rcases h with ⟨rfl, rfl⟩ | ⟨a, cap, rfl, h2, h3, h4⟩
  · exact ⟨[], rfl, .inl ⟨rfl, rfl, rfl⟩, by simp [flatSp], fun i u L h => by simp at h⟩
  · have key : ∀ i s, L[i]? = some s → ∃ u, w.cell? ⟨(a.add (i * 5)).block, (a.add (i * 5)).off + 2, none⟩ = some u ∧ IsWps w u s.w := fun i s hi => (h4 i s hi).ws
    have hvl : ((List.range L.length).map fun i => (w.cell? ⟨(a.add (i * 5)).block, (a.add (i * 5)).off + 2, none⟩).getD (.int .i64 0)).length = L.length := by simp
    have hvg : ∀ (i : Nat) s, L[i]? = some s → ∃ u, ((List.range L.length).map fun i => (w.cell? ⟨(a.add (i * 5)).block, (a.add (i * 5)).off + 2, none⟩).getD (.int .i64 0))[i]? = some u ∧ w.cell? ⟨(a.add (i * 5)).block, (a.add (i * 5)).off + 2, none⟩ = some u ∧ IsWps w u s.w := fun i s hi => by
      obtain ⟨u, k1, k2⟩ := key i s hi
      have hlt := (List.getElem?_eq_some_iff.1 hi).1
      exact ⟨u, by rw [List.getElem?_map, List.getElem?_range hlt]; simp [k1], k1, k2⟩
    generalize ((List.range L.length).map fun i => (w.cell? ⟨(a.add (i * 5)).block, (a.add (i * 5)).off + 2, none⟩).getD (.int .i64 0)) = vs at *
    refine ⟨vs, hvl, .inr ⟨a, cap, rfl, fun j u hj => ?_⟩, hone L vs fun u hu => ?_, fun i u s hu hs => ?_⟩
    · have hlt : j < (flatSp L vs).length := (List.getElem?_eq_some_iff.1 hj).1
      rw [flatSp_len _ _ hvl] at hlt
      obtain ⟨i, r, rfl, hr⟩ : ∃ i r, j = i * 5 + r ∧ r < 5 := ⟨j / 5, j % 5, by omega, by omega⟩
      have hg := List.getElem?_eq_getElem (show i < L.length by omega)
      obtain ⟨x, e1, e2, _⟩ := hvg i _ hg
      have hS := h4 i _ hg
      rw [flatSp_get L vs i r _ x hvl hg e1 hr] at hj
      obtain rfl | rfl | rfl | rfl | rfl : r = 0 ∨ r = 1 ∨ r = 2 ∨ r = 3 ∨ r = 4 := by omega
      · exact hS.k.trans hj
      · rw [addA _ (by omega)]; exact hS.n.trans hj
      · rw [addA _ (by omega)]; exact e2.trans hj
      · rw [addA _ (by omega)]; exact hS.v.trans hj
      · rw [addA _ (by omega)]; exact hS.m.trans hj
    · obtain ⟨i, hi⟩ := List.getElem?_of_mem hu
      have hlt := (List.getElem?_eq_some_iff.1 hi).1
      obtain ⟨x, e1, _, e3⟩ := hvg i _ (List.getElem?_eq_getElem (show i < L.length by omega))
      rw [hi] at e1
      cases e1
      obtain ⟨o, c, rfl⟩ := e3.form
      rfl
    · obtain ⟨x, e1, _, e3⟩ := hvg i s hs
      rw [hu] at e1
      cases e1
      exact e3
/-- A copy. -/
theorem SpO.copy {w w' : World} {e : TypeId} {ov : Value} {L : List Sp} {vs : List Value} (hl : vs.length = L.length) (hr : ∀ (i : Nat) u s, vs[i]? = some u → L[i]? = some s → IsWps w u s.w) (ho : w'.ownsRow w.heap.size e 5 ov L.length (flatSp L vs)) (q : B w w') : SpO w' w.heap.size e ov L vs := by
  refine ⟨hl, ho, fun j u s hu hs => ⟨(hr j u s hu hs).keepB q, fun hn e => ?_⟩⟩
  have hk := hr j u s hu hs
  cases hb : u.ownBlock with
  | none =>
    rcases hk with ⟨rfl, h⟩ | ⟨a, cap, rfl, _⟩
    · exact hn h
    · cases hb
  | some b =>
    have h1 := hk.lt hn hb
    have h2 := (ho.lt b (by rw [e, hb])).1
    omega
theorem flatSp_set : ∀ (SS : List Sp) (vs : List Value) (j c : Nat) (s s' : Sp) (u u' x : Value), vs.length = SS.length → SS[j]? = some s → vs[j]? = some u → c < 5 → (s.cells u).set c x = s'.cells u' → (flatSp SS vs).set (j * 5 + c) x = flatSp (SS.set j s') (vs.set j u')
  | [], _, j, c, s, s', u, u', x, _, h, _, _, _ => by simp at h
  | _ :: _, [], j, c, s, s', u, u', x, h, _, _, _, _ => by simp at h
  | t :: SS, v :: vs, 0, c, s, s', u, u', x, h, h1, h2, hc, he => by
    simp only [List.getElem?_cons_zero, Option.some.injEq] at h1 h2
    subst h1 h2
    show (t.cells v ++ flatSp SS vs).set (0 * 5 + c) x = s'.cells u' ++ flatSp SS vs
    rw [Nat.zero_mul, Nat.zero_add, List.set_append_left _ _ (by show c < 5; omega), he]
  | t :: SS, v :: vs, j + 1, c, s, s', u, u', x, h, h1, h2, hc, he => by
    simp only [List.getElem?_cons_succ] at h1 h2
    show (t.cells v ++ flatSp SS vs).set ((j + 1) * 5 + c) x = t.cells v ++ flatSp (SS.set j s') (vs.set j u')
    rw [List.set_append_right _ _ (by show 5 ≤ _; omega), show (j + 1) * 5 + c - (t.cells v).length = j * 5 + c by show (j + 1) * 5 + c - 5 = _; omega, flatSp_set SS vs j c s s' u u' x (by simpa using h) h1 h2 hc he]
/-- A cell of a step stored. -/
theorem SpO.set {w : World} {base : Nat} {e : TypeId} {g n cap : Nat} {SS : List Sp} {vs : List Value} (h : SpO w base e (.slice (some ⟨g, 0, none⟩) n cap) SS vs) (hn : n = SS.length) {j c : Nat} {s s' : Sp} {u u' x : Value} (hs : SS[j]? = some s) (hu : vs[j]? = some u) (hc : c < 5) (he : (s.cells u).set c x = s'.cells u')
    (hw : IsWps w u' s'.w) (hb : s'.w ≠ [] → some g ≠ u'.ownBlock) : SpO (w.setCell ⟨g, j * 5 + c, none⟩ x) base e (.slice (some ⟨g, 0, none⟩) n cap) (SS.set j s') (vs.set j u') := by
  subst hn
  obtain ⟨r1, _⟩ := h.own.stored (j * 5 + c) x
  rw [flatSp_set SS vs j c s s' u u' x h.len hs hu hc he] at r1
  refine ⟨by rw [List.length_set, List.length_set, h.len], by rw [List.length_set]; exact r1, fun i y t hy ht => ?_⟩
  have keepW : ∀ (y : Value) (L : List Wp), IsWps w y L → (L ≠ [] → some g ≠ y.ownBlock) → IsWps (w.setCell ⟨g, j * 5 + c, none⟩ x) y L := fun y L hy hne => by
    by_cases hL : L = []
    · subst hL
      rcases hy with hy | ⟨a, cp, rfl, h2, h3, _⟩
      · exact .inl hy
      · exact .inr ⟨a, cp, rfl, h2, h3, fun i f hf => by simp at hf⟩
    · exact hy.block fun b hb' _ => Below.heap_setCell w ⟨g, j * 5 + c, none⟩ x b (fun e => hne hL (by rw [hb']; exact congrArg some e.symm))
  by_cases hij : i = j
  · subst hij
    have hi1 : i < vs.length := (List.getElem?_eq_some_iff.1 hu).1
    have hi2 : i < SS.length := (List.getElem?_eq_some_iff.1 hs).1
    rw [List.getElem?_set_self hi1] at hy
    rw [List.getElem?_set_self hi2] at ht
    cases hy
    cases ht
    exact ⟨keepW _ _ hw hb, hb⟩
  · rw [List.getElem?_set_ne (fun e => hij e.symm)] at hy ht
    obtain ⟨k1, k2⟩ := h.row i y t hy ht
    exact ⟨keepW _ _ k1 k2, k2⟩
theorem SpO.is {w : World} {base : Nat} {e : TypeId} {g n cap : Nat} {SS : List Sp} {vs : List Value} (h : SpO w base e (.slice (some ⟨g, 0, none⟩) n cap) SS vs) (hn : n = SS.length) : IsSps w (.slice (some ⟨g, 0, none⟩) n cap) SS := by
  subst hn
  have hc : SS.length ≤ cap ∧ cap ≤ maxLen := by
    rcases h.own.2 with ⟨h0, _⟩ | ⟨g', cap', cur, h0, _, _, h1, h2, _⟩
    · cases h0
    · simp only [Value.slice.injEq] at h0
      obtain ⟨_, _, rfl⟩ := h0
      exact ⟨h1, h2⟩
  refine .inr ⟨⟨g, 0, none⟩, cap, rfl, hc.1, hc.2, fun i s hs => ?_⟩
  have hi : i < SS.length := (List.getElem?_eq_some_iff.1 hs).1
  have hl := h.len
  obtain ⟨u, hu⟩ : ∃ u, vs[i]? = some u := ⟨_, List.getElem?_eq_getElem (by omega)⟩
  have cell : ∀ c, c < 5 → w.cell? ⟨g, i * 5 + c, none⟩ = (s.cells u)[c]? := fun c hc => (h.own.cellAt (i * 5 + c) (by omega)).trans (flatSp_get SS vs i c s u hl hs hu hc)
  rw [addz]
  exact ⟨cell 0 (by omega), cell 1 (by omega), ⟨u, cell 2 (by omega), (h.row i u s hu hs).1⟩, cell 3 (by omega), cell 4 (by omega)⟩
end Go.Proofs.YtjdkhobkdlldnaaGreatDoor
