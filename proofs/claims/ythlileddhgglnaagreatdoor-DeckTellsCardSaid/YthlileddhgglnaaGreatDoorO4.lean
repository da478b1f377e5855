/-
  A law and what it rests on.
-/
import Derived.Laws.StructEq
import Derived.Deep.QuietTactic
import Derived.BigQuiet
import Derived.Test.YthlileddhgglnaaGreatDoorO3
import Derived.Test.YthlileddhgglnaaGreatDoorY23
namespace Go.Proofs.YthlileddhgglnaaGreatDoor
open Go.RowKit
set_option linter.unusedVariables false

theorem pow10_keep {w w' : World} (hp : Pow10 w) (q : B w w') : Pow10 w' := Lib.tabBelow_of_tabIs (Lib.TabBelow.on hp q.below).here
theorem DkIn.small {w : World} {wv tv fv : Value} {d : Dk} (h : DkIn w wv tv fv d) : Small d := ⟨fun r hr => (h.ws r hr).1, fun r hr => ⟨(h.ws r hr).2.1, (h.ws r hr).2.2.1⟩, fun r hr => (h.ts r hr).1, fun f hf => ⟨(h.fs f hf).1, (h.fs f hf).2.1, (h.fs f hf).2.2.1⟩⟩
theorem dec40 (n : Nat) : decide ((40 : Int) < (n : Int)) = decide (40 < n) := by rcases Nat.lt_or_ge 40 n with h | h <;> simp <;> omega
set_option maxRecDepth 100000 in
set_option maxHeartbeats 4000000 in
theorem tells_law (wv tv fv : Value) (D : Dk) (a b c d : Int) (lv : Value) (l : List Nat) (n : ByteArray) (r s : Int) (m : ByteArray) (ha : (Lit.int .u8 a).wf = true) (hb : (Lit.int .u8 b).wf = true) (hc : (Lit.int .u8 c).wf = true) (hd : (Lit.int .u8 d).wf = true) (hr : (Lit.int .i64 r).wf = true) (hs : (Lit.int .i64 s).wf = true) (w : World) (hD : DkIn w wv tv fv D) (hU : IsU32s w lv l) (hp : Pow10 w) :
    Calls Tryz.prog 4 #[.agg #[wv, tv, fv], .int .u8 a, .int .u8 b, .int .u8 c, .int .u8 d, lv, .agg #[.string n, .int .i64 r, .int .i64 s], .string m] w fun e w' => e = .returned (.bool true) ∧ B w w' := by
  replace ha := u8_wf ha
  replace hb := u8_wf hb
  replace hc := u8_wf hc
  replace hd := u8_wf hd
  replace hr := i64_of_wf hr
  replace hs := i64_of_wf hs
  have hnot : ∀ (x : Bool) (w : World), (Op.unary .not (.bool x)).run Tryz.prog w = .ok (.bool (!x)) w := fun _ _ => rfl
  have hsm := hD.small
  obtain ⟨hDk, _, _, _⟩ := hD
  obtain ⟨ao, ac, bo, bc, co, cc, rfl, rfl, rfl⟩ := hDk.forms
  have hDB := Lib.hid hDk
  obtain ⟨an, han⟩ : ∃ an, D.ws.length = an := ⟨_, rfl⟩
  obtain ⟨bn, hbn⟩ : ∃ bn, D.ts.length = bn := ⟨_, rfl⟩
  obtain ⟨cn, hcn⟩ : ∃ cn, D.fs.length = cn := ⟨_, rfl⟩
  simp only [han, hbn, hcn] at hDB ⊢
  obtain ⟨lo, lc, rfl, hlm, hUl⟩ := hU
  have hUB := Lib.hid (show IsU32s w (.slice lo l.length lc) l from ⟨lo, lc, rfl, hlm, hUl⟩)
  obtain ⟨ln, hln⟩ : ∃ ln, l.length = ln := ⟨_, rfl⟩
  rw [hln] at hUB hlm
  rw [hln]
  have qa : B w ((w.alloc (.cells #[.slice ao an ac, .slice bo bn bc, .slice co cn cc] 26)).alloc (.cells #[.string n, .int .i64 r, .int .i64 s] 39)) := ((B.refl _).alloc _ _).alloc _ _
  have cK := known11_any _ (pow10_keep hp qa)
  have oD := obj_past (obj_new w (.cells #[.slice ao an ac, .slice bo bn bc, .slice co cn cc] 26)) (.cells #[.string n, .int .i64 r, .int .i64 s] 39)
  have oW := obj_new (w.alloc (.cells #[.slice ao an ac, .slice bo bn bc, .slice co cn cc] 26)) (.cells #[.string n, .int .i64 r, .int .i64 s] 39)
  rw [show (w.alloc (.cells #[.slice ao an ac, .slice bo bn bc, .slice co cn cc] 26)).heap.size = w.heap.size + 1 by simp] at oW
  clear hDk hUl
  go_enter Tryz.func4, Tryz.ntmps4
  go_wp2_with fail
  generalize (w.alloc (.cells #[.slice ao an ac, .slice bo bn bc, .slice co cn cc] 26)).alloc (.cells #[.string n, .int .i64 r, .int .i64 s] 39) = w0 at *
  generalize hWb : w.heap.size + 1 = Wb at *
  generalize hDb : w.heap.size = Db at *
  refine cK.mono ?_
  rintro e w1 ⟨rfl, b1⟩
  have q1 := qa.trans b1
  have k0 : w1.cell? ⟨Db, 0, none⟩ = some (.slice ao an ac) := obj_cell (b1.obj oD) 0
  have k1 : w1.cell? ⟨Db, 1, none⟩ = some (.slice bo bn bc) := obj_cell (b1.obj oD) 1
  have k2 : w1.cell? ⟨Db, 2, none⟩ = some (.slice co cn cc) := obj_cell (b1.obj oD) 2
  have g0 : w1.cell? ⟨Wb, 0, none⟩ = some (.string n) := obj_cell (b1.obj oW) 0
  have oW1 := b1.obj oW
  have cL := lightdeck_any _ _ _ D w1 (hDB.out.keepB q1)
  obtain ⟨LD, hLD⟩ : ∃ LD, lightD D = LD := ⟨_, rfl⟩
  rw [hLD] at cL
  have hpw := Lib.hid (And.intro hp (And.intro hsm q1))
  clear cK oD oW qa b1 hp hsm
  go_wp2_with fail
  refine cL.mono ?_
  rintro e w2 ⟨rfl, q2'⟩
  have q2 := q2'.b
  replace k0 := q2.keep k0
  replace k1 := q2.keep k1
  replace k2 := q2.keep k2
  replace g0 := q2.keep g0
  replace oW1 := q2.obj oW1
  have hB2 := Lib.hid (hpw.out.2.2.trans q2)
  clear q2' q2 cL
  cases LD with
  | false =>
    go_wp2
    go_ret
    exact ⟨rfl, hB2.out⟩
  | true =>
  by_cases h20 : 20 < ln
  · have h20B : decide ((20 : Int) < (ln : Int)) = true := decide_eq_true (by omega)
    go_wp2
    go_ret
    exact ⟨rfl, hB2.out⟩
  have h20B : decide ((20 : Int) < (ln : Int)) = false := decide_eq_false (by omega)
  obtain ⟨nz, hnz⟩ : ∃ nz, n.size = nz := ⟨_, rfl⟩
  obtain ⟨mz, hmz⟩ : ∃ mz, m.size = mz := ⟨_, rfl⟩
  by_cases h40 : 40 < nz
  · have h40B : decide ((40 : Int) < (nz : Int)) = true := decide_eq_true (by omega)
    go_wp2
    go_ret
    exact ⟨rfl, hB2.out⟩
  have h40B : decide ((40 : Int) < (nz : Int)) = false := decide_eq_false (by omega)
  by_cases h41 : 40 < mz
  · have h41B : decide ((40 : Int) < (mz : Int)) = true := decide_eq_true (by omega)
    go_wp2
    go_ret
    exact ⟨rfl, hB2.out⟩
  have h41B : decide ((40 : Int) < (mz : Int)) = false := decide_eq_false (by omega)
  have cD := fun w' (q : B w2 w') => deck_any a b c d _ l (by omega) ha hb hc hd w' (hUB.out.keep (hB2.out.trans q))
  have hR := seat_right ha hb hc hd l
  have hY9 : (seatD a b c d l).fs.length < 1000 := by
    have := fillsF_len (wares7 a b c d) l 0
    simp only [seatD]
    omega
  generalize seatD a b c d l = Y at *
  have hD9 : D.fs.length < 1000 := by
    unfold lightD at hLD
    simp only [Bool.and_eq_true, decide_eq_true_eq] at hLD
    omega
  have HRS := Lib.hid (And.intro hr hs)
  clear hUB hlm hln h20 hr hs ha hb hc hd
  go_wp2_with fail
  have qd : B w2 w2.drew := (B.refl _).drew
  refine wp_region_noPanic ?_
  refine wp_region_seq (S := fun w' => w'.cell? ⟨Db, 0, none⟩ = some (.slice ao an ac) ∧ w'.cell? ⟨Db, 1, none⟩ = some (.slice bo bn bc) ∧ w'.cell? ⟨Db, 2, none⟩ = some (.slice co cn cc) ∧ B w2 w') [(0, 0), (1, 0), (2, 0), (3, 0), (4, 0), (5, 0), (9, 0), (6, 2), (7, 2), (8, 0)] [0, 0, 0, 0, 0, 0, 62, 65, 128, 0] [0, 0, 0, 0, 0, 0, 62, 65, 128, 0] (by kernel_rfl) (by kernel_rfl) (fun _ _ _ _ _ h => h) ?_ (fun hH => ?_)
  · exact ⟨qd.keep k0, qd.keep k1, qd.keep k2, qd⟩
  refine wpSeq_take (d := 63) (v := ?_) rfl rfl (by kernel_rfl) (fun w hS => ?_) ?_
  rotate_left
  · go_simp <;> with_reducible rfl
  dsimp only [List.set_cons_zero, List.set_cons_succ]
  refine wpSeq_take (d := 64) (v := ?_) rfl rfl (by kernel_rfl) (fun w hS => ?_) ?_
  rotate_left
  · go_simp <;> with_reducible rfl
  dsimp only [List.set_cons_zero, List.set_cons_succ]
  refine wpSeq_take (d := 65) (v := ?_) rfl rfl (by kernel_rfl) (fun w hS => ?_) ?_
  rotate_left
  · go_simp <;> with_reducible rfl
  dsimp only [List.set_cons_zero, List.set_cons_succ]
  refine wpSeq_take (d := 66) (v := ?_) rfl rfl (by kernel_rfl) (fun w hS => ?_) ?_
  rotate_left
  · go_simp <;> with_reducible rfl
  dsimp only [List.set_cons_zero, List.set_cons_succ]
  refine wpSeq_take (d := 67) (v := ?_) rfl rfl (by kernel_rfl) (fun w hS => ?_) ?_
  rotate_left
  · go_simp <;> with_reducible rfl
  dsimp only [List.set_cons_zero, List.set_cons_succ]
  refine wpSeq_take (d := 68) (v := ?_) rfl rfl (by kernel_rfl) (fun w hS => ?_) ?_
  rotate_left
  · go_simp <;> with_reducible rfl
  dsimp only [List.set_cons_zero, List.set_cons_succ]
  refine wpSeq_take (d := 72) (v := ?_) rfl rfl (by kernel_rfl) (fun w hS => ?_) ?_
  rotate_left
  · go_simp <;> with_reducible rfl
  dsimp only [List.set_cons_zero, List.set_cons_succ]
  refine wpSeq_call rfl (by kernel_rfl) (fun K hK => ?_)
  go_simp
  (with_reducible refine (cD _ hH.2.2.2).mono ?_)
  rintro e w' ⟨wv2, tv2, fv2, rfl, hD2, hq⟩
  obtain ⟨xo, xc, yo, yc, zo, zc, rfl, rfl, rfl⟩ := hD2.forms
  refine hK.out _ _ ?_ (fun hH => ?_)
  · exact ⟨hq.keep (hH.1), hq.keep (hH.2.1), hq.keep (hH.2.2.1), (hH.2.2.2).trans hq⟩
  clear hK
  refine wpSeq_call rfl (by kernel_rfl) (fun K hK => ?_)
  go_simp
  refine hK.out _ _ ?_ (fun hH => ?_)
  · exact ⟨((B.refl _).alloc _ _).keep hH.1, ((B.refl _).alloc _ _).keep hH.2.1, ((B.refl _).alloc _ _).keep hH.2.2.1, hH.2.2.2.trans ((B.refl _).alloc _ _)⟩
  clear hK
  refine wpSeq_take (d := 71) (v := ?_) rfl rfl (by kernel_rfl) (fun w hS => ?_) ?_
  rotate_left
  · go_simp <;> with_reducible rfl
  dsimp only [List.set_cons_zero, List.set_cons_succ]
  refine wpSeq_done ?_
  refine NoPanic.normal ?_
  have oL := obj_new w' (.cells #[.slice ao an ac, .slice bo bn bc, .slice co cn cc, .slice xo Y.ws.length xc, .slice yo Y.ts.length yc, .slice zo Y.fs.length zc] 26)
  have qN : B w' (w'.alloc (.cells #[.slice ao an ac, .slice bo bn bc, .slice co cn cc, .slice xo Y.ws.length xc, .slice yo Y.ts.length yc, .slice zo Y.fs.length zc] 26)) := (B.refl _).alloc _ _
  have hD3 := hD2.keepB qN
  have q3 : B w (w'.alloc (.cells #[.slice ao an ac, .slice bo bn bc, .slice co cn cc, .slice xo Y.ws.length xc, .slice yo Y.ts.length yc, .slice zo Y.fs.length zc] 26)) := hB2.out.trans hH.2.2.2
  replace g0 := hH.2.2.2.keep g0
  replace oW1 := hH.2.2.2.obj oW1
  have hDr := hDB.out.keepB q3
  clear hH qN hq hD2 qd k0 k1 k2 cD
  generalize w'.alloc (.cells #[.slice ao an ac, .slice bo bn bc, .slice co cn cc, .slice xo Y.ws.length xc, .slice yo Y.ts.length yc, .slice zo Y.fs.length zc] 26) = wR at *
  generalize hLB : w'.heap.size = LB at *
  have hdk : ∀ (wl : World) (j : Nat), j < 2 → B wR wl → ∃ (X : Dk) (o1 o2 o3 : Option Addr) (c1 c2 c3 : Nat), Small X ∧ X.fs.length < 1000 ∧ IsDk wl (.slice o1 X.ws.length c1) (.slice o2 X.ts.length c2) (.slice o3 X.fs.length c3) X ∧ wl.cell? ⟨LB, j * 3, none⟩ = some (.slice o1 X.ws.length c1) ∧ wl.cell? ⟨LB, j * 3 + 1, none⟩ = some (.slice o2 X.ts.length c2) ∧ wl.cell? ⟨LB, j * 3 + 2, none⟩ = some (.slice o3 X.fs.length c3) := fun wl j hj q => by
    have hsm := hpw.out.2.1
    match j, hj with
    | 0, _ =>
      subst han
      subst hbn
      subst hcn
      exact ⟨D, ao, bo, co, ac, bc, cc, hsm, hD9, hDr.keepB q, obj_cell (q.obj oL) 0, obj_cell (q.obj oL) 1, obj_cell (q.obj oL) 2⟩
    | 1, _ => exact ⟨Y, xo, yo, zo, xc, yc, zc, rightD_small hR, hY9, hD3.keepB q, obj_cell (q.obj oL) 3, obj_cell (q.obj oL) 4, obj_cell (q.obj oL) 5⟩
  have HW := Lib.hid (And.intro hdk (And.intro oW1 (And.intro q3 hpw.out.1)))
  clear hdk oL hD3 hDr oW1 g0 hD9 hY9 q3 hpw hR hDB
  go_wp2_with fail
  go_loopw [72] (fun iv wr => ∃ j : Nat, j ≤ 2 ∧ iv = .int .i64 j ∧ B wR wr) (fun iv _ => 3 - (intOf iv).toNat)
  case atStart => exact ⟨0, by omega, rfl, B.refl _⟩
  case round =>
    obtain ⟨j, hj, rfl, qr⟩ := hrel
    obtain ⟨wl, rfl⟩ : ∃ wl : World, wl = wr := ⟨_, rfl⟩
    by_cases hl : j < 2
    · have hlB : decide ((j : Int) < (2 : Int)) = true := decide_eq_true (by omega)
      have hlN : decide (j < 2) = true := decide_eq_true hl
      have hlI : (j : Int) < (2 : Int) := by omega
      have hi0 : (0 : Int) ≤ (j : Int) := by omega
      have wk1 : IntKind.i64.wrap ((j : Int) + 1) = (j : Int) + 1 := by rw [IntKind.wrap_i64]; omega
      obtain ⟨X, o1, o2, o3, c1, c2, c3, hS, hX9, hXk, x0, x1, x2⟩ := HW.out.1 wl j hl qr
      generalize hX1 : X.ws.length = X1 at *
      generalize hX2 : X.ts.length = X2 at *
      generalize hX3 : X.fs.length = X3 at *
      go_wp2_with fail
      have qx : B wl (wl.alloc (.cells #[.slice o1 X1 c1, .slice o2 X2 c2, .slice o3 X3 c3] 26)) := (B.refl _).alloc _ _
      have oX := obj_new wl (.cells #[.slice o1 X1 c1, .slice o2 X2 c2, .slice o3 X3 c3] 26)
      have hXd := hXk.keepB qx
      have q4 := HW.out.2.2.1.trans (qr.trans qx)
      have HQ := Lib.hid (And.intro q4 (And.intro (qr.trans qx) (And.intro hj (And.intro hl hS))))
      clear x0 x1 x2 hXk q4 qr qx hj hl hS
      generalize (wl.alloc (.cells #[.slice o1 X1 c1, .slice o2 X2 c2, .slice o3 X3 c3] 26)) = w4 at *
      generalize hXb : wl.heap.size = Xb at *
      cases hRX : rightD X with
      | false =>
        have sm := HQ.out.2.2.2.2
        have cN := dnew_no _ _ _ X w4 hXd hRX sm.wn sm.wi sm.tn sm.fi (by rw [hX3]; exact hX9)
        go_wp2_with fail
        refine cN.mono ?_
        rintro e w5 ⟨rfl, q5⟩
        have cM := r11no_any _ _ _ X w5 (hXd.keepB q5) hRX
        have oX5 := q5.obj oX
        have kx0 : w5.cell? ⟨Xb, 0, none⟩ = some (.slice o1 X1 c1) := obj_cell oX5 0
        have kx1 : w5.cell? ⟨Xb, 1, none⟩ = some (.slice o2 X2 c2) := obj_cell oX5 1
        have kx2 : w5.cell? ⟨Xb, 2, none⟩ = some (.slice o3 X3 c3) := obj_cell oX5 2
        clear cN sm
        go_wp2_with fail
        refine cM.mono ?_
        rintro e w6 ⟨rfl, q6⟩
        have HZ := Lib.hid (HQ.out.2.1.trans (q5.trans q6))
        clear cM kx0 kx1 kx2 oX5 oX hXd q5 q6 hRX
        go_wp2
        go_roundw
        case rel => exact ⟨j + 1, by have := HQ.out.2.2.2.1; omega, by go_num, HZ.out⟩
        case measure => have := HQ.out.2.2.2.1; simp [intOf]; omega
      | true =>
        have H4 := Lib.hid (And.intro hXd oX)
        have cN := dnew_right _ _ _ X w4 hXd hRX (by rw [hX3]; exact hX9)
        go_wp2_with fail
        refine cN.mono ?_
        rintro e w5 ⟨P, XT, rfl, hPd, hM, hlo, htop, q5⟩
        subst hPd
        have cM := r11new_any _ _ _ P.d w5 (hXd.keepB q5) hRX
        have oX5 := q5.obj oX
        have kx0 : w5.cell? ⟨Xb, 0, none⟩ = some (.slice o1 X1 c1) := obj_cell oX5 0
        have kx1 : w5.cell? ⟨Xb, 1, none⟩ = some (.slice o2 X2 c2) := obj_cell oX5 1
        have kx2 : w5.cell? ⟨Xb, 2, none⟩ = some (.slice o3 X3 c3) := obj_cell oX5 2
        clear cN
        go_wp2_with fail
        refine cM.mono ?_
        rintro e w6 ⟨rb, rfl, hRB, q6⟩
        have sm := HQ.out.2.2.2.2
        have cS := dstart_any w6 (hM.keepB q6) sm.fi (by rw [hX3]; omega)
        have hSN9 : (startD P.d).length = (countW P.d.ws).toNat := startD_len P.d
        obtain ⟨SN, hSN⟩ : ∃ SN, (startD P.d).length = SN := ⟨_, rfl⟩
        rw [hSN] at cS
        clear cM kx0 kx1 kx2 sm
        go_wp2_with fail
        refine cS.mono ?_
        rintro e w7 ⟨gs, rfl, hrow1, q7⟩
        have q67 := q6.trans q7
        have cU := r11start_any P.d rb _ _ _ _ _ w7 (hRB.keepB q7) (hXd.keepB (q5.trans q67)) hRX (by rw [hX3]; omega)
        rw [hSN] at cU
        clear cS
        go_wp2_with fail
        refine cU.mono ?_
        rintro e w8 ⟨gu, rfl, hrow2, q8⟩
        clear cU
        have q48 := (q5.trans q67).trans q8
        replace oX := q48.obj oX
        replace hXd := hXd.keepB q48
        replace hM := hM.keepB (q67.trans q8)
        replace hRB := hRB.keepB (q7.trans q8)
        replace hrow1 := own_keepBx hrow1 q8
        have q8R := HQ.out.2.1.trans q48
        have kx0 : w8.cell? ⟨Xb, 0, none⟩ = some (.slice o1 X1 c1) := obj_cell oX 0
        have kx1 : w8.cell? ⟨Xb, 1, none⟩ = some (.slice o2 X2 c2) := obj_cell oX 1
        have kx2 : w8.cell? ⟨Xb, 2, none⟩ = some (.slice o3 X3 c3) := obj_cell oX 2
        have cE1 := fun w' (q : B w8 w') => ddeck_any w' (hM.keepB q) (by rw [hX3]; omega)
        have qd : B w8 w8.drew := (B.refl _).drew
        go_wp2_with fail
        refine wp_region_noPanic ?_
        refine wp_region_seq (S := fun w' => w'.cell? ⟨Xb, 0, none⟩ = some (.slice o1 X1 c1) ∧ w'.cell? ⟨Xb, 1, none⟩ = some (.slice o2 X2 c2) ∧ w'.cell? ⟨Xb, 2, none⟩ = some (.slice o3 X3 c3) ∧ B w8 w') [(0, 0), (1, 0), (2, 0), (3, 0), (4, 0), (5, 0), (6, 0), (8, 0), (7, 2), (9, 2), (10, 0), (11, 0)] [0, 1, 0, 4, 10, 16, 32, 96, 32, 416, 544, 1056] [0, 1, 0, 4, 10, 16, 32, 96, 32, 416, 544, 1056] (by kernel_rfl) (by kernel_rfl) (fun _ _ _ _ _ h => h) ?_ (fun hH => ?_)
        · exact ⟨qd.keep kx0, qd.keep kx1, qd.keep kx2, qd⟩
        refine wpSeq_take (d := 102) (v := ?_) rfl rfl (by kernel_rfl) (fun w hS => ?_) ?_
        rotate_left
        · go_simp <;> with_reducible rfl
        dsimp only [List.set_cons_zero, List.set_cons_succ]
        refine wpSeq_take (d := 103) (v := ?_) rfl rfl (by kernel_rfl) (fun w hS => ?_) ?_
        rotate_left
        · go_simp <;> with_reducible rfl
        dsimp only [List.set_cons_zero, List.set_cons_succ]
        refine wpSeq_take (d := 104) (v := ?_) rfl rfl (by kernel_rfl) (fun w hS => ?_) ?_
        rotate_left
        · go_simp <;> with_reducible rfl
        dsimp only [List.set_cons_zero, List.set_cons_succ]
        refine wpSeq_take (d := 105) (v := ?_) rfl rfl (by kernel_rfl) (fun w hS => ?_) ?_
        rotate_left
        · go_simp <;> with_reducible rfl
        dsimp only [List.set_cons_zero, List.set_cons_succ]
        refine wpSeq_take (d := 106) (v := ?_) rfl rfl (by kernel_rfl) (fun w hS => ?_) ?_
        rotate_left
        · go_simp <;> with_reducible rfl
        dsimp only [List.set_cons_zero, List.set_cons_succ]
        refine wpSeq_take (d := 107) (v := ?_) rfl rfl (by kernel_rfl) (fun w hS => ?_) ?_
        rotate_left
        · go_simp <;> with_reducible rfl
        dsimp only [List.set_cons_zero, List.set_cons_succ]
        refine wpSeq_take (d := 108) (v := ?_) rfl rfl (by kernel_rfl) (fun w hS => ?_) ?_
        rotate_left
        · go_simp <;> with_reducible rfl
        dsimp only [List.set_cons_zero, List.set_cons_succ]
        refine wpSeq_take (d := 110) (v := ?_) rfl rfl (by kernel_rfl) (fun w hS => ?_) ?_
        rotate_left
        · go_simp <;> with_reducible rfl
        dsimp only [List.set_cons_zero, List.set_cons_succ]
        refine wpSeq_call rfl (by kernel_rfl) (fun K hK => ?_)
        go_simp
        (with_reducible refine (cE1 _ hH.2.2.2).mono ?_)
        rintro e wd ⟨ob1, cb1, ob2, cb2, ob3, cb3, ss, tt, rfl, hOw, hq⟩
        have hBd : B w8 wd := hH.2.2.2.trans hq
        have cE2 := (helpdeck_any _ _ _ _ _ _ P.d wd hOw.dk (hXd.keepB hBd)).mono (fun _ _ h => And.intro h.1 h.2.b)
        rw [hX1, hX2, hX3] at cE2
        refine hK.out _ _ ?_ (fun hH => ?_)
        · exact ⟨hq.keep (hH.1), hq.keep (hH.2.1), hq.keep (hH.2.2.1), (hH.2.2.2).trans hq⟩
        clear hK
        refine wpSeq_call rfl (by kernel_rfl) (fun K hK => ?_)
        go_simp
        (with_reducible refine (cE2).mono ?_)
        rintro e w' ⟨rfl, hq⟩
        refine hK.out _ _ ?_ (fun hH => ?_)
        · exact ⟨hq.keep (hH.1), hq.keep (hH.2.1), hq.keep (hH.2.2.1), (hH.2.2.2).trans hq⟩
        clear hK
        refine wpSeq_take (d := 112) (v := ?_) rfl rfl (by kernel_rfl) (fun w hS => ?_) ?_
        rotate_left
        · go_simp <;> with_reducible rfl
        dsimp only [List.set_cons_zero, List.set_cons_succ]
        refine wpSeq_take (d := 113) (v := ?_) rfl rfl (by kernel_rfl) (fun w hS => ?_) ?_
        rotate_left
        · go_simp <;> with_reducible rfl
        dsimp only [List.set_cons_zero, List.set_cons_succ]
        refine wpSeq_done ?_
        refine NoPanic.normal ?_
        obtain ⟨w9, rfl⟩ : ∃ w9 : World, w9 = w' := ⟨_, rfl⟩
        have q89 : B w8 w9 := hH.2.2.2
        clear hH qd cE1 cE2 hBd hOw hq kx0 kx1 kx2
        replace hM := hM.keepB q89
        replace hRB := hRB.keepB q89
        replace hrow1 := own_keepBx hrow1 q89
        replace hrow2 := own_keepBx hrow2 q89
        have q49 := q48.trans q89
        have hSlo := hM.low
        have z56 := q6.below.size
        have z67 := q7.below.size
        have hSup : ∀ k, P.S k → k < w5.heap.size := fun k hk => by have := (hM.sLow k hk).2; omega
        have H9 := Lib.hid (And.intro hRB (And.intro hrow1 (And.intro hrow2 (And.intro hSup (And.intro hSlo (And.intro hlo (And.intro z56 z67)))))))
        clear hRB hrow1 hrow2 hSup hSlo hlo z56 z67 hXd oX q89 q48 q8R q8 q67 q7 q6 q5 htop
        go_wp2_with fail
        go_loopw [25] (fun iv wr => ∃ (i n9 : Nat) (E9 : List Ent) (X9 : List Th), i ≤ SN ∧ iv = .int .i64 i ∧ BoardM P wr n9 E9 X9 ∧ B w4 wr ∧ G P.S w9 wr) (fun iv _ => SN + 1 - (intOf iv).toNat)
        case atStart => exact ⟨0, _, _, _, Nat.zero_le _, rfl, hM, q49, G.refl _ _⟩
        case round =>
          obtain ⟨i, n9, E9, X9, hi, rfl, hMr, q4r, gr⟩ := hrel
          obtain ⟨wi, rfl⟩ : ∃ wi : World, wi = wr := ⟨_, rfl⟩
          by_cases hl : i < SN
          · have hlB : decide ((i : Int) < (SN : Int)) = true := decide_eq_true (by omega)
            have hlN : decide (i < SN) = true := decide_eq_true hl
            have hlI : (i : Int) < (SN : Int) := by omega
            have hi0 : (0 : Int) ≤ (i : Int) := by omega
            have hXi := H4.out.1.keepB q4r
            have oXi := q4r.obj H4.out.2
            have kx0 : wi.cell? ⟨Xb, 0, none⟩ = some (.slice o1 X1 c1) := obj_cell oXi 0
            have kx1 : wi.cell? ⟨Xb, 1, none⟩ = some (.slice o2 X2 c2) := obj_cell oXi 1
            have kx2 : wi.cell? ⟨Xb, 2, none⟩ = some (.slice o3 X3 c3) := obj_cell oXi 2
            obtain ⟨_, _, pW, _⟩ := right_parts9 hRX
            have hwb := wares_in pW
            have hNA := apart_names pW
            have hcp := count_pos P.d.ws hwb
            have hcl := count_le P.d.ws hwb
            have wk2 : IntKind.i64.wrap ((i : Int) + 1) = (i : Int) + 1 := by rw [IntKind.wrap_i64]; omega
            have hIi : I64 (i : Int) := by unfold I64; omega
            have hbm : w.heap.size ≤ P.bm := by have h1 := HQ.out.1.below.size; have h2 := H9.out.2.2.2.2.2.1; have h3 := H9.out.2.2.2.2.1.1; omega
            have cA := r8at_any _ _ _ P.d (i : Int) hIi wi hXi hwb
            obtain ⟨⟨n2, r2, c2⟩, hat⟩ : ∃ x, atW P.d.ws (i : Int) = some x := by
              have h := at_is P.d.ws (i : Int) hwb
              rw [decide_eq_true hi0, decide_eq_true (show (i : Int) < countW P.d.ws by omega)] at h
              exact Option.isSome_iff_exists.1 h
            have hix := at_index P.d.ws 0 (i : Int) n2 r2 c2 hwb hNA hat
            have hic : indexC P.d.ws 0 n2 r2 c2 = some (0 + (i : Int)) := by rw [indexC_eq _ _ _ _ _ hNA]; exact hix
            obtain ⟨hr0, hr8, hc0, hc12⟩ := at_range P.d.ws (i : Int) n2 r2 c2 hwb hat
            have hnd := indexC_named P.d.ws 0 n2 r2 c2 (by rw [hic]; rfl)
            obtain ⟨iw, rc, xb, hiw, hrn, _, _⟩ := named_at pW hnd P.bw hMr.wl
            have hn2 : n2.size ≤ maxLen := by rw [← hrn]; exact HQ.out.2.2.2.2.wn _ (List.mem_of_getElem? hiw)
            rw [hat, show wellV (some (n2, r2, c2)) = .agg #[.string n2, .int .i64 r2, .int .i64 c2] from rfl] at cA
            clear hiw hrn hnd hwb hNA hcp hcl
            go_wp2_with fail
            refine cA.mono ?_
            rintro e wj ⟨rfl, qj⟩
            have cW0 := fun w' (q : B wj w') => dwell_yes w w' (HW.out.2.2.1.trans (HQ.out.2.1.trans (q4r.trans (qj.trans q)))) HW.out.2.2.2 hbm (hMr.keepB (qj.trans q)) n2 r2 c2 hn2 (by unfold I64; omega) (by unfold I64; omega) _ hic
            clear cA hbm hn2 hat hic kx0 kx1 kx2 oXi
            go_wp2_with fail
            have qk : B wj (wj.alloc (.cells #[.string n2, .int .i64 r2, .int .i64 c2] 39)) := (B.refl _).alloc _ _
            have oK := obj_new wj (.cells #[.string n2, .int .i64 r2, .int .i64 c2] 39)
            have cW := cW0 _ qk
            have hJI := H4.out.2
            have zJ : w5.heap.size ≤ wj.heap.size := by have h1 := gr.size; have h2 := qj.below.size; have h3 := H9.out.1.le; have h4 := H9.out.2.2.2.2.2.2.1; have h5 := H9.out.2.2.2.2.2.2.2; omega
            have qJk := qj.trans qk
            clear cW0 qk qj
            generalize (wj.alloc (.cells #[.string n2, .int .i64 r2, .int .i64 c2] 39)) = wk at *
            generalize hKb : wj.heap.size = Kb at *
            have m0 : wk.cell? ⟨Kb, 0, none⟩ = some (.string n2) := obj_cell oK 0
            have m1 : wk.cell? ⟨Kb, 1, none⟩ = some (.int .i64 r2) := obj_cell oK 1
            have m2 : wk.cell? ⟨Kb, 2, none⟩ = some (.int .i64 c2) := obj_cell oK 2
            go_wp2_with fail
            refine cW.mono ?_
            rintro e wm ⟨ic, rc1, pc, e0, n10, E10, X10, hrc1, hrcn, rfl, he0, hExt, hM10, gM⟩
            have hKS : ¬ P.S Kb := fun h => by have := H9.out.2.2.2.1 Kb h; omega
            have gm : G P.S w9 wm := gr.trans ((qJk.g _).trans gM)
            have q4m : B w4 wm := gM.b (q4r.trans qJk) (fun k hk => Nat.le_trans H9.out.2.2.2.2.2.1 (H9.out.2.2.2.2.1.2 k hk))
            have oKm := gM.obj hKS oK
            replace m0 : wm.cell? ⟨Kb, 0, none⟩ = some (.string n2) := obj_cell oKm 0
            replace m1 : wm.cell? ⟨Kb, 1, none⟩ = some (.int .i64 r2) := obj_cell oKm 1
            replace m2 : wm.cell? ⟨Kb, 2, none⟩ = some (.int .i64 c2) := obj_cell oKm 2
            have hRm := gm.held H9.out.1 (fun k h1 _ h3 => by have := H9.out.2.2.2.1 k h3; omega)
            have cTb := r11tab_any P.d rb _ _ _ wm hRm.now (H4.out.1.keepB q4m) (wares_in pW) (right_parts9 hRX).1 n2 r2 c2 (by rw [hix]; rfl)
            have HM := Lib.hid (And.intro hM10 (And.intro gm (And.intro q4m (And.intro hl (And.intro hExt (And.intro he0 (And.intro hrc1 hrcn)))))))
            clear cW oK oKm hKS gm q4m hM10 gM hExt qJk gr q4r hMr hl hi zJ
            go_wp2_with fail
            refine cTb.mono ?_
            rintro e wo ⟨iz, rc2, pz, hrc2, hrcn2, rfl, hTz, qo⟩
            have hrw := apart_at pW HM.out.2.2.2.2.2.2.1
            obtain rfl : rc1 = rc2 := name_one pW HM.out.2.2.2.2.2.2.1 hrc2 (HM.out.2.2.2.2.2.2.2.trans hrcn2.symm)
            have hent := HM.out.1.cache.ents e0 HM.out.2.2.2.2.1.1
            have hCt := hent.tab.held.now
            have hright := hent.right
            rw [HM.out.2.2.2.2.2.1, HM.out.2.2.2.2.1.2.1] at hCt
            rw [HM.out.2.2.2.2.1.2.1] at hright
            have hTB := tbnd_of hright
            have hTz' := hTz.keepB qo
            have hCt' := hCt.keepB qo
            obtain ⟨LL, hLL⟩ : ∃ LL, slAll rc1.l = LL := ⟨_, rfl⟩
            rw [hLL] at hTz' hCt' hTB
            have hgm := HM.out.2.1
            have hup := H9.out.2.2.2.1
            have zr := H9.out.2.2.2.2.2.2
            have r1 := own_keepBx (own_on H9.out.2.1 (fun k h1 h2 => hgm.block k h2 (fun h => by have := hup k h; omega))) qo
            have r2 := own_keepBx (own_on H9.out.2.2.1 (fun k h1 h2 => hgm.block k h2 (fun h => by have := hup k h; omega))) qo
            have hlI2 := HM.out.2.2.2.1
            obtain ⟨⟨sl, sh⟩, hs0⟩ : ∃ x, (startD P.d)[i]? = some x := ⟨_, List.getElem?_eq_getElem (by omega)⟩
            obtain ⟨p0, p1⟩ := flatP_get _ _ _ hs0
            have y0 := (r1.cellAt (i * 2) (by omega)).trans p0
            have y1 := (r1.cellAt (i * 2 + 1) (by omega)).trans p1
            have u0 := (r2.cellAt (i * 2) (by omega)).trans p0
            have u1 := (r2.cellAt (i * 2 + 1) (by omega)).trans p1
            have cSc := fun w' (q : B wo w') => cslices_any _ LL w' hTB (hCt'.keepB q)
            have cSd := fun w' (q : B wo w') => (r3slices_any _ LL hTB.n w' (hTz'.keepB q)).mono (fun _ w2 h => And.intro h.1 (show B w' w2 from h.2 ▸ B.refl _))
            have cLc := fun w' (q : B wo w') => clow_any _ LL (LL.length : Int) w' hTB (hCt'.keepB q)
            have cLd := fun w' (q : B wo w') => (r3low_any _ LL hTB.n (LL.length : Int) w' (hTz'.keepB q)).mono (fun _ w2 h => And.intro h.1 h.2.q.b)
            generalize hLW : lowT LL (nearI LL.length (LL.length : Int)) = LW at *
            generalize LL.length = LN at *
            have HO := Lib.hid qo
            clear hs0 p0 p1 r1 r2 hgm hup zr hlI2 hTz hTz' hCt hCt' hright hTB hent hrw hrc2 hrcn2 qo m0 m1 m2 cTb hLL hRm
            have qd : B wo wo.drew := (B.refl _).drew
            go_wp2_with fail
            refine wp_region_noPanic ?_
            refine wp_region_seq (S := fun w' => w'.cell? ⟨gs, i * 2, none⟩ = some (.int .i64 sl) ∧ w'.cell? ⟨gs, i * 2 + 1, none⟩ = some (.int .i64 sh) ∧ w'.cell? ⟨gu, i * 2, none⟩ = some (.int .i64 sl) ∧ w'.cell? ⟨gu, i * 2 + 1, none⟩ = some (.int .i64 sh) ∧ B wo w') [(0, 0), (1, 0), (2, 0), (3, 0), (4, 0), (5, 0), (6, 0), (7, 0), (8, 0), (9, 0), (10, 0), (11, 0), (12, 0), (13, 0), (14, 0), (15, 0), (16, 0), (17, 0), (18, 0), (20, 0), (19, 2), (21, 2), (22, 0), (23, 0), (24, 0), (25, 0), (26, 0), (29, 0), (30, 0), (27, 2), (28, 2), (31, 2), (32, 2), (33, 0), (34, 0)] [0, 0, 3, 4, 0, 0, 48, 64, 136, 256, 512, 1536, 2560, 4608, 8192, 24576, 40960, 73728, 131072, 393216, 131072, 1703936, 2752512, 4325376, 10485760, 16777216, 16777216, 83886080, 184549376, 16777216, 16777216, 1358954496, 2701131776, 4580179968, 8606711808] [0, 0, 3, 4, 0, 0, 48, 64, 136, 256, 512, 1536, 2560, 4096, 8192, 24576, 40960, 65536, 131072, 393216, 131072, 1179648, 2752512, 4325376, 8388608, 16777216, 16777216, 83886080, 184549376, 16777216, 16777216, 1090519040, 2701131776, 4580179968, 8606711808] (by kernel_rfl) (by kernel_rfl) (fun _ _ _ _ _ h => h) ?_ (fun hH => ?_)
            · exact ⟨qd.keep y0, qd.keep y1, qd.keep u0, qd.keep u1, qd⟩
            refine wpSeq_take (d := 138) (v := ?_) rfl rfl (by kernel_rfl) (fun w hS => ?_) ?_
            rotate_left
            · go_simp <;> with_reducible rfl
            dsimp only [List.set_cons_zero, List.set_cons_succ]
            refine wpSeq_take (d := 139) (v := ?_) rfl rfl (by kernel_rfl) (fun w hS => ?_) ?_
            rotate_left
            · go_simp <;> with_reducible rfl
            dsimp only [List.set_cons_zero, List.set_cons_succ]
            refine wpSeq_take (d := 140) (v := ?_) rfl rfl (by kernel_rfl) (fun w hS => ?_) ?_
            rotate_left
            · go_simp <;> with_reducible rfl
            dsimp only [List.set_cons_zero, List.set_cons_succ]
            refine wpSeq_take (d := 141) (v := ?_) rfl rfl (by kernel_rfl) (fun w hS => ?_) ?_
            rotate_left
            · go_simp <;> with_reducible rfl
            dsimp only [List.set_cons_zero, List.set_cons_succ]
            refine wpSeq_take (d := 142) (v := ?_) rfl rfl (by kernel_rfl) (fun w hS => ?_) ?_
            rotate_left
            · go_simp <;> with_reducible rfl
            dsimp only [List.set_cons_zero, List.set_cons_succ]
            refine wpSeq_take (d := 143) (v := ?_) rfl rfl (by kernel_rfl) (fun w hS => ?_) ?_
            rotate_left
            · go_simp <;> with_reducible rfl
            dsimp only [List.set_cons_zero, List.set_cons_succ]
            refine wpSeq_take (d := 144) (v := ?_) rfl rfl (by kernel_rfl) (fun w hS => ?_) ?_
            rotate_left
            · go_simp <;> with_reducible rfl
            dsimp only [List.set_cons_zero, List.set_cons_succ]
            refine wpSeq_take (d := 145) (v := ?_) rfl rfl (by kernel_rfl) (fun w hS => ?_) ?_
            rotate_left
            · go_simp <;> with_reducible rfl
            dsimp only [List.set_cons_zero, List.set_cons_succ]
            refine wpSeq_take (d := 146) (v := ?_) rfl rfl (by kernel_rfl) (fun w hS => ?_) ?_
            rotate_left
            · go_simp <;> with_reducible rfl
            dsimp only [List.set_cons_zero, List.set_cons_succ]
            refine wpSeq_take (d := 147) (v := ?_) rfl rfl (by kernel_rfl) (fun w hS => ?_) ?_
            rotate_left
            · go_simp <;> with_reducible rfl
            dsimp only [List.set_cons_zero, List.set_cons_succ]
            refine wpSeq_take (d := 148) (v := ?_) rfl rfl (by kernel_rfl) (fun w hS => ?_) ?_
            rotate_left
            · go_simp <;> with_reducible rfl
            dsimp only [List.set_cons_zero, List.set_cons_succ]
            refine wpSeq_take (d := 149) (v := ?_) rfl rfl (by kernel_rfl) (fun w hS => ?_) ?_
            rotate_left
            · go_simp <;> with_reducible rfl
            dsimp only [List.set_cons_zero, List.set_cons_succ]
            refine wpSeq_take (d := 150) (v := ?_) rfl rfl (by kernel_rfl) (fun w hS => ?_) ?_
            rotate_left
            · go_simp <;> with_reducible rfl
            dsimp only [List.set_cons_zero, List.set_cons_succ]
            refine wpSeq_take (d := 151) (v := ?_) rfl rfl (by kernel_rfl) (fun w hS => ?_) ?_
            rotate_left
            · go_simp <;> with_reducible rfl
            dsimp only [List.set_cons_zero, List.set_cons_succ]
            refine wpSeq_take (d := 152) (v := ?_) rfl rfl (by kernel_rfl) (fun w hS => ?_) ?_
            rotate_left
            · go_simp <;> with_reducible rfl
            dsimp only [List.set_cons_zero, List.set_cons_succ]
            refine wpSeq_take (d := 153) (v := ?_) rfl rfl (by kernel_rfl) (fun w hS => ?_) ?_
            rotate_left
            · go_simp <;> with_reducible rfl
            dsimp only [List.set_cons_zero, List.set_cons_succ]
            refine wpSeq_take (d := 154) (v := ?_) rfl rfl (by kernel_rfl) (fun w hS => ?_) ?_
            rotate_left
            · go_simp <;> with_reducible rfl
            dsimp only [List.set_cons_zero, List.set_cons_succ]
            refine wpSeq_take (d := 155) (v := ?_) rfl rfl (by kernel_rfl) (fun w hS => ?_) ?_
            rotate_left
            · go_simp <;> with_reducible rfl
            dsimp only [List.set_cons_zero, List.set_cons_succ]
            refine wpSeq_take (d := 156) (v := ?_) rfl rfl (by kernel_rfl) (fun w hS => ?_) ?_
            rotate_left
            · go_simp <;> with_reducible rfl
            dsimp only [List.set_cons_zero, List.set_cons_succ]
            refine wpSeq_take (d := 158) (v := ?_) rfl rfl (by kernel_rfl) (fun w hS => ?_) ?_
            rotate_left
            · go_simp <;> with_reducible rfl
            dsimp only [List.set_cons_zero, List.set_cons_succ]
            refine wpSeq_call rfl (by kernel_rfl) (fun K hK => ?_)
            go_simp
            (with_reducible refine (cSc _ hH.2.2.2.2).mono ?_)
            rintro e w' ⟨rfl, hq⟩
            refine hK.out _ _ ?_ (fun hH => ?_)
            · exact ⟨hq.keep (hH.1), hq.keep (hH.2.1), hq.keep (hH.2.2.1), hq.keep (hH.2.2.2.1), (hH.2.2.2.2).trans hq⟩
            clear hK
            refine wpSeq_call rfl (by kernel_rfl) (fun K hK => ?_)
            go_simp
            (with_reducible refine (cSd _ hH.2.2.2.2).mono ?_)
            rintro e w' ⟨rfl, hq⟩
            refine hK.out _ _ ?_ (fun hH => ?_)
            · exact ⟨hq.keep (hH.1), hq.keep (hH.2.1), hq.keep (hH.2.2.1), hq.keep (hH.2.2.2.1), (hH.2.2.2.2).trans hq⟩
            clear hK
            refine wpSeq_take (d := 160) (v := ?_) rfl rfl (by kernel_rfl) (fun w hS => ?_) ?_
            rotate_left
            · go_simp <;> with_reducible rfl
            dsimp only [List.set_cons_zero, List.set_cons_succ]
            refine wpSeq_take (d := 161) (v := ?_) rfl rfl (by kernel_rfl) (fun w hS => ?_) ?_
            rotate_left
            · go_simp <;> with_reducible rfl
            dsimp only [List.set_cons_zero, List.set_cons_succ]
            refine wpSeq_take (d := 162) (v := ?_) rfl rfl (by kernel_rfl) (fun w hS => ?_) ?_
            rotate_left
            · go_simp <;> with_reducible rfl
            dsimp only [List.set_cons_zero, List.set_cons_succ]
            refine wpSeq_take (d := 163) (v := ?_) rfl rfl (by kernel_rfl) (fun w hS => ?_) ?_
            rotate_left
            · go_simp <;> with_reducible rfl
            dsimp only [List.set_cons_zero, List.set_cons_succ]
            refine wpSeq_take (d := 164) (v := ?_) rfl rfl (by kernel_rfl) (fun w hS => ?_) ?_
            rotate_left
            · go_simp <;> with_reducible rfl
            dsimp only [List.set_cons_zero, List.set_cons_succ]
            refine wpSeq_take (d := 167) (v := ?_) rfl rfl (by kernel_rfl) (fun w hS => ?_) ?_
            rotate_left
            · go_simp <;> with_reducible rfl
            dsimp only [List.set_cons_zero, List.set_cons_succ]
            refine wpSeq_take (d := 168) (v := ?_) rfl rfl (by kernel_rfl) (fun w hS => ?_) ?_
            rotate_left
            · go_simp <;> with_reducible rfl
            dsimp only [List.set_cons_zero, List.set_cons_succ]
            refine wpSeq_call rfl (by kernel_rfl) (fun K hK => ?_)
            go_simp
            (with_reducible refine (cSd _ hH.2.2.2.2).mono ?_)
            rintro e w' ⟨rfl, hq⟩
            refine hK.out _ _ ?_ (fun hH => ?_)
            · exact ⟨hq.keep (hH.1), hq.keep (hH.2.1), hq.keep (hH.2.2.1), hq.keep (hH.2.2.2.1), (hH.2.2.2.2).trans hq⟩
            clear hK
            refine wpSeq_call rfl (by kernel_rfl) (fun K hK => ?_)
            go_simp
            (with_reducible refine (cLc _ hH.2.2.2.2).mono ?_)
            rintro e w' ⟨rfl, hq⟩
            refine hK.out _ _ ?_ (fun hH => ?_)
            · exact ⟨hq.keep (hH.1), hq.keep (hH.2.1), hq.keep (hH.2.2.1), hq.keep (hH.2.2.2.1), (hH.2.2.2.2).trans hq⟩
            clear hK
            refine wpSeq_call rfl (by kernel_rfl) (fun K hK => ?_)
            go_simp
            (with_reducible refine (cSd _ hH.2.2.2.2).mono ?_)
            rintro e w' ⟨rfl, hq⟩
            refine hK.out _ _ ?_ (fun hH => ?_)
            · exact ⟨hq.keep (hH.1), hq.keep (hH.2.1), hq.keep (hH.2.2.1), hq.keep (hH.2.2.2.1), (hH.2.2.2.2).trans hq⟩
            clear hK
            refine wpSeq_call rfl (by kernel_rfl) (fun K hK => ?_)
            go_simp
            (with_reducible refine (cLd _ hH.2.2.2.2).mono ?_)
            rintro e w' ⟨rfl, hq⟩
            refine hK.out _ _ ?_ (fun hH => ?_)
            · exact ⟨hq.keep (hH.1), hq.keep (hH.2.1), hq.keep (hH.2.2.1), hq.keep (hH.2.2.2.1), (hH.2.2.2.2).trans hq⟩
            clear hK
            refine wpSeq_take (d := 171) (v := ?_) rfl rfl (by kernel_rfl) (fun w hS => ?_) ?_
            rotate_left
            · go_simp <;> with_reducible rfl
            dsimp only [List.set_cons_zero, List.set_cons_succ]
            refine wpSeq_take (d := 172) (v := ?_) rfl rfl (by kernel_rfl) (fun w hS => ?_) ?_
            rotate_left
            · go_simp <;> with_reducible rfl
            dsimp only [List.set_cons_zero, List.set_cons_succ]
            refine wpSeq_done ?_
            refine NoPanic.normal ?_
            have HF := Lib.hid (HO.out.trans hH.2.2.2.2)
            clear hH qd cSc cSd cLc cLd y0 y1 u0 u1 HO
            go_wp2
            go_roundw
            case rel => exact ⟨i + 1, _, _, _, by have := HM.out.2.2.2.1; omega, by go_num, HM.out.1.keepB HF.out, HM.out.2.2.1.trans HF.out, HM.out.2.1.trans (HF.out.g _)⟩
            case measure => have := HM.out.2.2.2.1; simp [intOf]; omega
          · have hlB : decide ((i : Int) < (SN : Int)) = false := decide_eq_false (by omega)
            have hlN : decide (i < SN) = false := decide_eq_false hl
            have zi : w5.heap.size ≤ wi.heap.size := by have h1 := gr.size; have h3 := H9.out.1.le; have h4 := H9.out.2.2.2.2.2.2.1; have h5 := H9.out.2.2.2.2.2.2.2; omega
            have hbm : w.heap.size ≤ P.bm := by have h1 := HQ.out.1.below.size; have h2 := H9.out.2.2.2.2.2.1; have h3 := H9.out.2.2.2.2.1.1; omega
            have qn : B wi (wi.alloc (.cells #[.string m, .string { data := #[116, 49] }, .string { data := #[116, 50] }] 9)) := (B.refl _).alloc _ _
            have oN := obj_new wi (.cells #[.string m, .string { data := #[116, 49] }, .string { data := #[116, 50] }] 9)
            have hNS : ¬ P.S wi.heap.size := fun h => by have := H9.out.2.2.2.1 _ h; omega
            have hMn := hMr.keepB qn
            have q4n := q4r.trans qn
            have gn : G P.S w9 (wi.alloc (.cells #[.string m, .string { data := #[116, 49] }, .string { data := #[116, 50] }] 9)) := gr.trans (qn.g _)
            have HB := Lib.hid hbm
            clear hMr q4r gr hl hi qn zi hbm
            go_wp2_with fail
            generalize (wi.alloc (.cells #[.string m, .string { data := #[116, 49] }, .string { data := #[116, 50] }] 9)) = wn at *
            generalize hNb : wi.heap.size = Nb at *
            have hmL : m.size ≤ maxLen := by unfold maxLen; omega
            try simp only [Exit.inBlock, Exit.then]
            refine names_loop rb Xb Nb hmL hRX hX2 HW.out.2.2.2 HQ.out.1 HB.out H4.out.1 H4.out.2 H9.out.1 H9.out.2.2.2.1 H9.out.2.2.2.2.1 H9.out.2.2.2.2.2.1 hNS hMn q4n gn oN ?_
            clear hMn q4n gn oN hmL
            intro v16 v33 v34 v35 v36 v37 v176 v177 v178 v179 v180 v181 v182 v183 v184 v185 v186 v187 v188 v189 v190 v191 v192 v193 v194 v195 v196 v197 v198 v199 v200 v201 v202 v203 v204 v205 v206 v207 v208 v209 v210 v211 v212 v213 v214 v215 v216 v217 v218 v219 v220 v221 v222 v223 v224 v225 v226 v227 v228 v229 v230 v231 v232 v233 v234 v235 v236 v237 v238 v239 v240 v241 wv hrel
            obtain ⟨n9, E9, X9, hMr, q4r, gr⟩ := hrel
            try simp only [Exit.inBlock, Exit.then]
            have oWv := (HQ.out.2.1.trans q4r).obj HW.out.2.1
            have u0 : wv.cell? ⟨Wb, 0, none⟩ = some (.string n) := obj_cell oWv 0
            have u1 : wv.cell? ⟨Wb, 1, none⟩ = some (.int .i64 r) := obj_cell oWv 1
            have u2 : wv.cell? ⟨Wb, 2, none⟩ = some (.int .i64 s) := obj_cell oWv 2
            have hnL : n.size ≤ maxLen := by unfold maxLen; omega
            obtain ⟨_, _, pW, _⟩ := right_parts9 hRX
            have hNA := apart_names pW
            have hce := indexC_eq P.d.ws 0 n r s hNA
            have hWB := wares_in pW
            cases hidx : indexC P.d.ws 0 n r s with
            | none =>
              have cW := dwell_no w wv (HW.out.2.2.1.trans (HQ.out.2.1.trans q4r)) HW.out.2.2.2 HB.out hMr n r s hnL HRS.out.1 HRS.out.2 hidx
              clear hMr
              go_wp2_with fail
              refine cW.mono ?_
              rintro e wp ⟨rfl, _, qp⟩
              have gp := gr.trans (qp.g _)
              have hRp := gp.held H9.out.1 (fun k h1 _ h3 => by have := H9.out.2.2.2.1 k h3; omega)
              have q4p := q4r.trans qp
              have cTb := r11tabno_any P.d rb _ _ _ wp hRp.now (H4.out.1.keepB q4p) hWB (right_parts9 hRX).1 n r s (by rw [← hce, hidx]; rfl)
              replace u0 := qp.keep u0
              replace u1 := qp.keep u1
              replace u2 := qp.keep u2
              clear cW gr q4r qp gp hRp hce
              go_wp2_with fail
              refine cTb.mono ?_
              rintro e wq ⟨rfl, qq⟩
              have HF := Lib.hid (q4p.trans qq)
              clear cTb q4p qq u0 u1 u2
              go_wp2
              go_roundw
              case rel => exact ⟨j + 1, by have := HQ.out.2.2.2.1; omega, by go_num, HQ.out.2.1.trans HF.out⟩
              case measure => have := HQ.out.2.2.2.1; simp [intOf]; omega
            | some ix =>
              have cW := dwell_yes w wv (HW.out.2.2.1.trans (HQ.out.2.1.trans q4r)) HW.out.2.2.2 HB.out hMr n r s hnL HRS.out.1 HRS.out.2 ix hidx
              clear hMr
              go_wp2_with fail
              refine cW.mono ?_
              rintro e wp ⟨ic, rc1, pc, e0, n10, E10, X10, _, _, rfl, _, _, _, gM⟩
              have gp := gr.trans gM
              have q4p : B w4 wp := gM.b q4r (fun k hk => Nat.le_trans H9.out.2.2.2.2.2.1 (H9.out.2.2.2.2.1.2 k hk))
              have hRp := gp.held H9.out.1 (fun k h1 _ h3 => by have := H9.out.2.2.2.1 k h3; omega)
              have cTb := r11tab_any P.d rb _ _ _ wp hRp.now (H4.out.1.keepB q4p) hWB (right_parts9 hRX).1 n r s (by rw [← hce, hidx]; rfl)
              have oWp := (HQ.out.2.1.trans q4p).obj HW.out.2.1
              clear u0 u1 u2
              have u0 : wp.cell? ⟨Wb, 0, none⟩ = some (.string n) := obj_cell oWp 0
              have u1 : wp.cell? ⟨Wb, 1, none⟩ = some (.int .i64 r) := obj_cell oWp 1
              have u2 : wp.cell? ⟨Wb, 2, none⟩ = some (.int .i64 s) := obj_cell oWp 2
              clear cW gr q4r gM gp hRp hce oWp
              go_wp2_with fail
              refine cTb.mono ?_
              rintro e wq ⟨iz, rc2, pz, _, _, rfl, _, qq⟩
              have HF := Lib.hid (q4p.trans qq)
              clear cTb q4p qq u0 u1 u2
              go_wp2
              go_roundw
              case rel => exact ⟨j + 1, by have := HQ.out.2.2.2.1; omega, by go_num, HQ.out.2.1.trans HF.out⟩
              case measure => have := HQ.out.2.2.2.1; simp [intOf]; omega
    · have hlB : decide ((j : Int) < (2 : Int)) = false := decide_eq_false (by omega)
      have hlN : decide (j < 2) = false := decide_eq_false hl
      have HZ := Lib.hid (HW.out.2.2.1.trans qr)
      clear qr
      go_wp2
      go_ret
      exact ⟨rfl, HZ.out⟩
theorem tells_ok (wv tv fv : Value) (D : Dk) (a b c d : Int) (lv : Value) (l : List Nat) (n : ByteArray) (r s : Int) (m : ByteArray) (ha : (Lit.int .u8 a).wf = true) (hb : (Lit.int .u8 b).wf = true) (hc : (Lit.int .u8 c).wf = true) (hd : (Lit.int .u8 d).wf = true) (hr : (Lit.int .i64 r).wf = true) (hs : (Lit.int .i64 s).wf = true) (w : World) (hD : DkIn w wv tv fv D) (hU : IsU32s w lv l) (htab : Lib.TabIs Tryz.prog w "internal/strconv.uint64pow10" .u64 Lib.pow10Tab) :
    Calls Tryz.prog 4 #[.agg #[wv, tv, fv], .int .u8 a, .int .u8 b, .int .u8 c, .int .u8 d, lv, .agg #[.string n, .int .i64 r, .int .i64 s], .string m] w fun e w' => e = .returned (.bool true) ∧ B w w' :=
  tells_law wv tv fv D a b c d lv l n r s m ha hb hc hd hr hs w hD hU (Lib.tabBelow_of_tabIs htab)
end Go.Proofs.YthlileddhgglnaaGreatDoor
