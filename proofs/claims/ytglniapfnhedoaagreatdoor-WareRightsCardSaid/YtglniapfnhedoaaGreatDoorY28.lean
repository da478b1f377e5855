/-
 Contracts and what they rest on.
-/
import Derived.Lib.AppendIntMem
import Derived.Deep.CutBlock
import Derived.Deep.DeepCutAuto
import Derived.Test.YtglniapfnhedoaaGreatDoorChecked
import Derived.ProofKit
import Derived.OpenShut
import Derived.Deep.Slices
import Derived.ChangeArms
import Derived.Test.YtglniapfnhedoaaGreatDoorY8
import Derived.Test.YtglniapfnhedoaaGreatDoorY27
namespace Go.Proofs.YtglniapfnhedoaaGreatDoor
open Go.RowKit
set_option linter.unusedVariables false
theorem fillsF_few (ws : List Wr) : ∀ (l : List Nat) (i : Nat), (fillsF ws i l).length ≤ l.length
 | [], _ => by simp [fillsF]
 | x :: l, i => by
  have ih := fillsF_few ws l (i + 1)
  unfold fillsF
  split
  ·simp; omega
  ·split
   ·simp; omega
   ·simp; omega
theorem shape_some (k : Nat) : ∃ s0 sl, shapeOf k = s0 :: sl := by
 unfold shapeOf
 split <;> exact ⟨_, _, rfl⟩
theorem seat_deck {a b c d : Int} (ha : 0 ≤ a ∧ a ≤ 255) (hb : 0 ≤ b ∧ b ≤ 255) (hc : 0 ≤ c ∧ c ≤ 255) (hd : 0 ≤ d ∧ d ≤ 255) {l : List Nat} (hl : l.length ≤ 20) : (∃ r0 r1 t0 tl, (seatD a b c d l).ws = [r0, r1] ∧ (seatD a b c d l).ts = t0 :: tl ∧ ∃ s0 sl, r0.l = s0 :: sl) ∧ DkP (seatD a b c d l) ∧ (seatD a b c d l).fs.length ≤ 20 := by
 have hf : (seatD a b c d l).fs.length ≤ 20 := Nat.le_trans (fillsF_few _ l 0) hl
 exact ⟨⟨_, _, _, _, rfl, rfl, shape_some _⟩, rightD_dkp (seat_right ha hb hc hd l) (by omega), hf⟩
set_option maxRecDepth 100000 in
set_option maxHeartbeats 1000000 in
theorem rights9_any (wv tv fv : Value) (d9 : Dk) (a b c d : Int) (lv : Value) (ll : List Nat) (bend : Nat) (vv : Int) (hbend : bend < 256) (hvv : I64 vv) (ha : 0 ≤ a ∧ a ≤ 255) (hb : 0 ≤ b ∧ b ≤ 255) (hc : 0 ≤ c ∧ c ≤ 255) (hd : 0 ≤ d ∧ d ≤ 255) (w : World) (hD : IsDk w wv tv fv d9) (hP9 : d9.fs.length ≤ 40 → DkP d9) (hU : IsU32s w lv ll)
  (htab : Lib.TabIs Tryz.prog w "internal/strconv.uint64pow10" .u64 Lib.pow10Tab) :
  Calls Tryz.prog 3 #[.agg #[wv, tv, fv], .int .u8 a, .int .u8 b, .int .u8 c, .int .u8 d, lv, .int .u8 (bend : Int), .int .i64 vv] w fun e w' => e = .returned (.bool true) ∧ B w w' := by
 obtain ⟨ao, ac, bo, bc, co, cc, rfl, rfl, rfl⟩ := hD.forms
 obtain ⟨lao, lac, rfl⟩ : ∃ lao lac, lv = .slice lao ll.length lac := by
  obtain ⟨lao, lcap, rfl, _⟩ := hU
  exact ⟨lao, lcap, rfl⟩
 have q0 : B w (w.alloc (.cells #[.slice ao d9.ws.length ac, .slice bo d9.ts.length bc, .slice co d9.fs.length cc] 26)) := (B.refl w).alloc _ _
 have o0 := obj_new w (.cells #[.slice ao d9.ws.length ac, .slice bo d9.ts.length bc, .slice co d9.fs.length cc] 26)
 have ck := known9_any (w.alloc (.cells #[.slice ao d9.ws.length ac, .slice bo d9.ts.length bc, .slice co d9.fs.length cc] 26)) (Lib.TabBelow.here ((Lib.tabBelow_of_tabIs htab).on q0.below))
 have cLd := fun w1 (q : B w w1) => lightdeck_any _ _ _ d9 w1 (hD.keepB q)
 have HD := Lib.hid (And.intro hD hP9)
 have HU := Lib.hid (And.intro hU (And.intro ha (And.intro hb (And.intro hc hd))))
 have HT := Lib.hid htab
 have HV := Lib.hid hvv
 clear hD hP9 hU htab
 obtain ⟨nw, hnw⟩ : ∃ n, d9.ws.length = n := ⟨_, rfl⟩
 obtain ⟨nt, hnt⟩ : ∃ n, d9.ts.length = n := ⟨_, rfl⟩
 obtain ⟨nf, hnf⟩ : ∃ n, d9.fs.length = n := ⟨_, rfl⟩
 obtain ⟨nl, hnl⟩ : ∃ n, ll.length = n := ⟨_, rfl⟩
 rw [hnw, hnt, hnf] at q0 o0 ck cLd
 rw [hnw, hnt, hnf, hnl]
 have HN := Lib.hid (And.intro hnw (And.intro hnt (And.intro hnf hnl)))
 clear hnw hnt hnf hnl
 obtain ⟨w0, hw0⟩ : ∃ w0, w.alloc (.cells #[.slice ao nw ac, .slice bo nt bc, .slice co nf cc] 26) = w0 := ⟨_, rfl⟩
 rw [hw0] at ck q0 o0
 go_enter Tryz.func3, Tryz.ntmps3
 go_wp2_with fail
 generalize w.heap.size = N0 at *
 clear hw0
 refine ck.mono ?_
 rintro _ w1 ⟨rfl, q1⟩
 have q01 := q0.trans q1
 have c1 := cLd _ q01
 have k0 := obj_cell (q1.obj o0) 0
 have k1 := obj_cell (q1.obj o0) 1
 have k2 := obj_cell (q1.obj o0) 2
 have o1 := q1.obj o0
 clear ck cLd q0 o0 q1
 go_wp2_with fail
 refine c1.mono ?_
 rintro _ w2 ⟨rfl, q2⟩
 have q02 := q01.trans q2.b
 have o2 := q2.b.obj o1
 clear c1 q01 o1 k0 k1 k2 q2
 obtain ⟨Ld, hLd⟩ : ∃ Ld, lightD d9 = Ld := ⟨_, rfl⟩
 rw [hLd]
 by_cases hbig : Ld = false ∨ 20 < nl
 ·have hor : Ld = false ∨ (Ld = true ∧ decide ((20 : Int) < (nl : Int)) = true ∧ decide (20 < nl) = true) := by
   cases Ld with
   | false => exact .inl rfl
   | true => exact .inr ⟨rfl, by rcases hbig with h | h; cases h; exact ⟨decide_eq_true (by omega), decide_eq_true h⟩⟩
  clear hbig hLd
  rcases hor with rfl | ⟨rfl, g1, g2⟩
  all_goals
   go_wp2
   go_ret
   exact ⟨rfl, q02⟩
 obtain rfl : Ld = true := by
  cases Ld with
  | false => exact absurd (.inl rfl) hbig
  | true => rfl
 have hl20 : nl ≤ 20 := by omega
 have g1 : decide ((20 : Int) < (nl : Int)) = false := decide_eq_false (by omega)
 have g2 : decide (20 < nl) = false := decide_eq_false (by omega)
 have HL := Lib.hid hLd
 have cD := fun w' (q : B w w') => deck_any a b c d _ ll (by rw [HN.out.2.2.2]; exact hl20) ha hb hc hd w' (HU.out.1.keep q)
 have cO := fun w' (q : B w w') => deck_own a b c d _ ll (by rw [HN.out.2.2.2]; exact hl20) ha hb hc hd w' (HU.out.1.keep q)
 have hsd := seat_deck ha hb hc hd (l := ll) (by rw [HN.out.2.2.2]; exact hl20)
 rw [HN.out.2.2.2] at cD cO
 generalize seatD a b c d ll = SD at *
 have HSD := Lib.hid hsd
 have c2 := cD _ q02
 clear hbig hLd hsd cD
 go_wp2_with fail
 refine c2.mono ?_
 rintro _ w3 ⟨xw, xt, xf, rfl, hX, q3⟩
 have q03 := q02.trans q3
 have o3 := q3.obj o2
 clear c2 q02 o2 q3
 have q0X : B w (w3.alloc (.cells #[xw, xt, xf] 26)) := q03.trans ((B.refl w3).alloc _ _)
 have o3X := ((B.refl w3).alloc #[xw, xt, xf] 26).obj o3
 have oX := obj_new w3 (.cells #[xw, xt, xf] 26)
 have hXX := hX.keepB ((B.refl w3).alloc #[xw, xt, xf] 26)
 obtain ⟨xwo, xwc, xto, xtc, xfo, xfc, rfl, rfl, rfl⟩ := hX.forms
 obtain ⟨n1, hn1⟩ : ∃ n, SD.ws.length = n := ⟨_, rfl⟩
 obtain ⟨n2, hn2⟩ : ∃ n, SD.ts.length = n := ⟨_, rfl⟩
 obtain ⟨n3, hn3⟩ : ∃ n, SD.fs.length = n := ⟨_, rfl⟩
 rw [hn1, hn2, hn3] at hXX oX o3X q0X ⊢
 have HXn := Lib.hid (And.intro hn1 (And.intro hn2 hn3))
 clear hX q03 o3 hn1 hn2 hn3
 have c3 := cO _ q0X
 clear cO
 obtain ⟨wX, hwX⟩ : ∃ wX, w3.alloc (.cells #[.slice xwo n1 xwc, .slice xto n2 xtc, .slice xfo n3 xfc] 26) = wX := ⟨_, rfl⟩
 rw [hwX] at c3 q0X o3X oX hXX
 go_wp2_with fail
 generalize w3.heap.size = NX at *
 clear hwX
 refine c3.mono ?_
 rintro _ w4 ⟨yw, yt, yf, ss, tt, rfl, hY, q4⟩
 clear c3
 obtain ⟨w5, hw5⟩ : ∃ w5, w4.alloc (.cells #[yw, yt, yf] 26) = w5 := ⟨_, rfl⟩
 have q45 : B w4 w5 := by rw [← hw5]; exact (B.refl w4).alloc _ _
 have oY : w5.heap[w4.heap.size]? = some (.cells #[yw, yt, yf] 26 (0, 0)) := by rw [← hw5]; exact obj_new w4 _
 have hY5 := hY.on (fun i _ hi => q45.below.block i hi)
 have qX5 : B wX w5 := q4.trans q45
 have HNY := Lib.hid q4.below.size
 obtain ⟨r0, r1, t0, tl, hws, hts, hr0l⟩ := HSD.out.1
 have HR0 := Lib.hid hr0l
 clear hr0l
 obtain ⟨u0, u1, hss⟩ : ∃ u0 u1, ss = [u0, u1] := by
  have h := hY.sl
  rw [hws] at h
  match ss, h with
  | [u0, u1], _ => exact ⟨u0, u1, rfl⟩
 obtain ⟨v0, hv0⟩ : ∃ v0, tt[0]? = some v0 := ⟨_, List.getElem?_eq_getElem (by rw [hY.tl, hts]; simp)⟩
 have hr0 : SD.ws[0]? = some r0 := by rw [hws]; rfl
 have hr1 : SD.ws[1]? = some r1 := by rw [hws]; rfl
 have ht0 : SD.ts[0]? = some t0 := by rw [hts]; rfl
 have hu0 : ss[0]? = some u0 := by rw [hss]; rfl
 have hu1 : ss[1]? = some u1 := by rw [hss]; rfl
 have hn1 : n1 = 2 := by rw [← HXn.out.1, hws]; rfl
 subst hn1
 have hn2 : 0 < n2 := by rw [← HXn.out.2.1, hts]; simp
 obtain ⟨gwo, cw, rfl⟩ := own_slice hY5.ws
 obtain ⟨gto, ct, rfl⟩ := own_slice hY5.ts
 obtain ⟨gfo, cf, rfl⟩ := own_slice hY5.fs
 obtain ⟨gw, rfl, _, _, _⟩ := own_full hY5.ws (by rw [HXn.out.1]; omega)
 obtain ⟨gt, rfl, _, _, _⟩ := own_full hY5.ts (by rw [HXn.out.2.1]; omega)
 have hDP := HSD.out.2.1
 rw [HXn.out.1, HXn.out.2.1, HXn.out.2.2] at oY hY5 hw5 ⊢
 have k0 : w5.cell? ⟨w4.heap.size, 0, none⟩ = some (.slice (some ⟨gw, 0, none⟩) 2 cw) := obj_cell oY 0
 have k1 : w5.cell? ⟨w4.heap.size, 1, none⟩ = some (.slice (some ⟨gt, 0, none⟩) n2 ct) := obj_cell oY 1
 have k2 : w5.cell? ⟨w4.heap.size, 2, none⟩ = some (.slice gfo n3 cf) := obj_cell oY 2
 have HY := Lib.hid (And.intro hY5 (And.intro oY (And.intro qX5 (And.intro hDP (And.intro hr0 (And.intro hr1 (And.intro ht0 (And.intro hu0 (And.intro hu1 hv0)))))))))
 clear hY hY5 oY q45 q4 qX5 hws hts hss hv0 hr0 hr1 ht0 hu0 hu1 hDP
 obtain ⟨r12, hr12⟩ : ∃ r12, bend % 12 = r12 := ⟨_, rfl⟩
 have hr12T : (bend : Int).tmod 12 = (r12 : Int) := by rw [← hr12]; exact (Int.ofNat_tmod bend 12).symm
 have wr12 : IntKind.u8.wrap (r12 : Int) = (r12 : Int) := by rw [IntKind.wrap_u8]; omega
 have hr12N : r12 < 12 := by omega
 clear hr12
 go_upto_block 0 with fail
 generalize w4.heap.size = NY at *
 clear hw5
 go_cut [18] (fun xv wx => xv = .pointer (some ⟨NY, 0, none⟩) ∧ BentAt wX NY wx)
 case first =>
  have hcases : r12 = 0 ∨ r12 = 1 ∨ r12 = 2 ∨ r12 = 3 ∨ r12 = 4 ∨ r12 = 5 ∨ r12 = 6 ∨ r12 = 7 ∨ r12 = 8 ∨ r12 = 9 ∨ r12 = 10 ∨ r12 = 11 := by omega
  rcases hcases with rfl | rfl | rfl | rfl | rfl | rfl | rfl | rfl | rfl | rfl | rfl | rfl
  ·have tq0 : ((((0 : Nat) : Int)) == 0) = true := rfl
   obtain ⟨hY5, oY, qX5, hDP, hr0, hr1, ht0, hu0, hu1, hv0⟩ := HY.out
   obtain ⟨y1, z9, _⟩ := hY5.cellW (c := 3) HXn.out.1.symm hr0 hu0 (by omega)
   replace y1 : w5.cell? ⟨gw, 3, none⟩ = some (.int .i64 r0.z) := y1
   replace z9 : w5.frozen? ⟨gw, 3, none⟩ = false := z9
   clear hY5 oY qX5 hDP hr0 hr1 ht0 hu0 hu1 hv0
   go_wp2_with fail
   go_meet
   case rel =>
    obtain ⟨hY5, oY, qX5, hDP, hr0, hr1, ht0, hu0, hu1, hv0⟩ := HY.out
    exact ⟨rfl, bent_putW (i := 0) (c := 3) hY5 oY hDP qX5 HXn.out.1.symm hr0 hu0 { r0 with z := vv } (.int .i64 vv) (by omega) rfl rfl (hDP.wn r0 (List.mem_of_getElem? hr0)) (hDP.wi r0 (List.mem_of_getElem? hr0))⟩
  ·have tq0 : ((((1 : Nat) : Int)) == 0) = false := rfl
   have tq1 : ((((1 : Nat) : Int)) == 1) = true := rfl
   obtain ⟨hY5, oY, qX5, hDP, hr0, hr1, ht0, hu0, hu1, hv0⟩ := HY.out
   obtain ⟨y1, z9, _⟩ := hY5.cellW (c := 0) HXn.out.1.symm hr1 hu1 (by omega)
   replace y1 : w5.cell? ⟨gw, 5, none⟩ = some (.string r1.n) := y1
   replace z9 : w5.frozen? ⟨gw, 5, none⟩ = false := z9
   clear hY5 oY qX5 hDP hr0 hr1 ht0 hu0 hu1 hv0
   go_wp2_with fail
   go_meet
   case rel =>
    obtain ⟨hY5, oY, qX5, hDP, hr0, hr1, ht0, hu0, hu1, hv0⟩ := HY.out
    exact ⟨rfl, bent_putW (i := 1) (c := 0) hY5 oY hDP qX5 HXn.out.1.symm hr1 hu1 { r1 with n := { data := #[112, 108, 97, 116, 101] } } (.string { data := #[112, 108, 97, 116, 101] }) (by omega) rfl rfl (show (5 : Nat) ≤ maxLen by unfold maxLen; omega) (hDP.wi r1 (List.mem_of_getElem? hr1))⟩
  ·have tq0 : ((((2 : Nat) : Int)) == 0) = false := rfl
   have tq1 : ((((2 : Nat) : Int)) == 1) = false := rfl
   have tq2 : ((((2 : Nat) : Int)) == 2) = true := rfl
   obtain ⟨hY5, oY, qX5, hDP, hr0, hr1, ht0, hu0, hu1, hv0⟩ := HY.out
   obtain ⟨y1, z9, _⟩ := hY5.cellW (c := 1) HXn.out.1.symm hr0 hu0 (by omega)
   replace y1 : w5.cell? ⟨gw, 1, none⟩ = some (.int .i64 r0.x) := y1
   replace z9 : w5.frozen? ⟨gw, 1, none⟩ = false := z9
   clear hY5 oY qX5 hDP hr0 hr1 ht0 hu0 hu1 hv0
   go_wp2_with fail
   go_meet
   case rel =>
    obtain ⟨hY5, oY, qX5, hDP, hr0, hr1, ht0, hu0, hu1, hv0⟩ := HY.out
    exact ⟨rfl, bent_putW (i := 0) (c := 1) hY5 oY hDP qX5 HXn.out.1.symm hr0 hu0 { r0 with x := vv } (.int .i64 vv) (by omega) rfl rfl (hDP.wn r0 (List.mem_of_getElem? hr0)) ⟨HV.out, (hDP.wi r0 (List.mem_of_getElem? hr0)).2⟩⟩
  ·have tq0 : ((((3 : Nat) : Int)) == 0) = false := rfl
   have tq1 : ((((3 : Nat) : Int)) == 1) = false := rfl
   have tq2 : ((((3 : Nat) : Int)) == 2) = false := rfl
   have tq3 : ((((3 : Nat) : Int)) == 3) = true := rfl
   obtain ⟨hY5, oY, qX5, hDP, hr0, hr1, ht0, hu0, hu1, hv0⟩ := HY.out
   obtain ⟨y1, z9, _⟩ := hY5.cellT (c := 1) HXn.out.2.1.symm ht0 hv0 (by omega)
   replace y1 : w5.cell? ⟨gt, 1, none⟩ = some (.int .i64 t0.x) := by rw [Nat.zero_mul, Nat.zero_add] at y1; exact y1
   replace z9 : w5.frozen? ⟨gt, 1, none⟩ = false := by rw [Nat.zero_mul, Nat.zero_add] at z9; exact z9
   clear hY5 oY qX5 hDP hr0 hr1 ht0 hu0 hu1 hv0
   go_wp2_with fail
   go_meet
   case rel =>
    obtain ⟨hY5, oY, qX5, hDP, hr0, hr1, ht0, hu0, hu1, hv0⟩ := HY.out
    have h := bent_putT (i := 0) (c := 1) hY5 oY hDP qX5 HXn.out.2.1.symm ht0 hv0 { t0 with x := vv } (.int .i64 vv) (by omega) rfl rfl (hDP.tn t0 (List.mem_of_getElem? ht0))
    exact ⟨rfl, by rw [Nat.zero_mul, Nat.zero_add] at h; exact h⟩
  ·have tq0 : ((((4 : Nat) : Int)) == 0) = false := rfl
   have tq1 : ((((4 : Nat) : Int)) == 1) = false := rfl
   have tq2 : ((((4 : Nat) : Int)) == 2) = false := rfl
   have tq3 : ((((4 : Nat) : Int)) == 3) = false := rfl
   have tq4 : ((((4 : Nat) : Int)) == 4) = true := rfl
   obtain ⟨hY5, oY, qX5, hDP, hr0, hr1, ht0, hu0, hu1, hv0⟩ := HY.out
   obtain ⟨y1, z9, _⟩ := hY5.cellT (c := 2) HXn.out.2.1.symm ht0 hv0 (by omega)
   replace y1 : w5.cell? ⟨gt, 2, none⟩ = some (.int .i64 t0.y) := by rw [Nat.zero_mul, Nat.zero_add] at y1; exact y1
   replace z9 : w5.frozen? ⟨gt, 2, none⟩ = false := by rw [Nat.zero_mul, Nat.zero_add] at z9; exact z9
   clear hY5 oY qX5 hDP hr0 hr1 ht0 hu0 hu1 hv0
   go_wp2_with fail
   go_meet
   case rel =>
    obtain ⟨hY5, oY, qX5, hDP, hr0, hr1, ht0, hu0, hu1, hv0⟩ := HY.out
    have h := bent_putT (i := 0) (c := 2) hY5 oY hDP qX5 HXn.out.2.1.symm ht0 hv0 { t0 with y := vv } (.int .i64 vv) (by omega) rfl rfl (hDP.tn t0 (List.mem_of_getElem? ht0))
    exact ⟨rfl, by rw [Nat.zero_mul, Nat.zero_add] at h; exact h⟩
  ·have tq0 : ((((5 : Nat) : Int)) == 0) = false := rfl
   have tq1 : ((((5 : Nat) : Int)) == 1) = false := rfl
   have tq2 : ((((5 : Nat) : Int)) == 2) = false := rfl
   have tq3 : ((((5 : Nat) : Int)) == 3) = false := rfl
   have tq4 : ((((5 : Nat) : Int)) == 4) = false := rfl
   have tq5 : ((((5 : Nat) : Int)) == 5) = true := rfl
   obtain ⟨hY5, oY, qX5, hDP, hr0, hr1, ht0, hu0, hu1, hv0⟩ := HY.out
   obtain ⟨y1, z9, _⟩ := hY5.cellT (c := 3) HXn.out.2.1.symm ht0 hv0 (by omega)
   replace y1 : w5.cell? ⟨gt, 3, none⟩ = some (.int .i64 t0.z) := by rw [Nat.zero_mul, Nat.zero_add] at y1; exact y1
   replace z9 : w5.frozen? ⟨gt, 3, none⟩ = false := by rw [Nat.zero_mul, Nat.zero_add] at z9; exact z9
   clear hY5 oY qX5 hDP hr0 hr1 ht0 hu0 hu1 hv0
   go_wp2_with fail
   go_meet
   case rel =>
    obtain ⟨hY5, oY, qX5, hDP, hr0, hr1, ht0, hu0, hu1, hv0⟩ := HY.out
    have h := bent_putT (i := 0) (c := 3) hY5 oY hDP qX5 HXn.out.2.1.symm ht0 hv0 { t0 with z := vv } (.int .i64 vv) (by omega) rfl rfl (hDP.tn t0 (List.mem_of_getElem? ht0))
    exact ⟨rfl, by rw [Nat.zero_mul, Nat.zero_add] at h; exact h⟩
  ·have tq0 : ((((6 : Nat) : Int)) == 0) = false := rfl
   have tq1 : ((((6 : Nat) : Int)) == 1) = false := rfl
   have tq2 : ((((6 : Nat) : Int)) == 2) = false := rfl
   have tq3 : ((((6 : Nat) : Int)) == 3) = false := rfl
   have tq4 : ((((6 : Nat) : Int)) == 4) = false := rfl
   have tq5 : ((((6 : Nat) : Int)) == 5) = false := rfl
   have tq6 : ((((6 : Nat) : Int)) == 6) = true := rfl
   obtain ⟨hY5, oY, qX5, hDP, hr0, hr1, ht0, hu0, hu1, hv0⟩ := HY.out
   obtain ⟨y1, _, _⟩ := hY5.cellW (c := 4) HXn.out.1.symm hr0 hu0 (by omega)
   replace y1 : w5.cell? ⟨gw, 4, none⟩ = some u0 := y1
   have hs := hY5.sh 0 r0 u0 hr0 hu0
   obtain ⟨s0, sl, hsl⟩ := HR0.out
   obtain ⟨m, hm⟩ : ∃ m, r0.l.length = m := ⟨_, rfl⟩
   have hm0 : 0 < m := by rw [← hm, hsl]; simp
   have hm0' : (0 : Int) < (m : Int) := by omega
   rw [hm] at hs
   obtain ⟨so, sc, rfl⟩ := own_slice hs
   obtain ⟨gs, rfl, _, _, _⟩ := own_full hs hm0
   have y2 := hs.cellAt 1 (by omega)
   rw [hsl] at y2
   replace y2 : w5.cell? ⟨gs, 1, none⟩ = some (.int .i64 s0.h) := y2
   have z9 := hs.frozenAt 1
   have HM := Lib.hid hm
   clear hY5 oY qX5 hDP hr0 hr1 ht0 hu0 hu1 hv0 hs hsl hm
   go_wp2_with fail
   go_meet
   case rel =>
    obtain ⟨hY5, oY, qX5, hDP, hr0, hr1, ht0, hu0, hu1, hv0⟩ := HY.out
    exact ⟨rfl, bent_shape hY5 oY hDP qX5 hr0 hu0 HV.out⟩
  ·have tq0 : ((((7 : Nat) : Int)) == 0) = false := rfl
   have tq1 : ((((7 : Nat) : Int)) == 1) = false := rfl
   have tq2 : ((((7 : Nat) : Int)) == 2) = false := rfl
   have tq3 : ((((7 : Nat) : Int)) == 3) = false := rfl
   have tq4 : ((((7 : Nat) : Int)) == 4) = false := rfl
   have tq5 : ((((7 : Nat) : Int)) == 5) = false := rfl
   have tq6 : ((((7 : Nat) : Int)) == 6) = false := rfl
   have tq7 : ((((7 : Nat) : Int)) == 7) = true := rfl
   obtain ⟨i0, hi0, hz0, hz1, hz2⟩ := info_of fillIF
   obtain ⟨hY5, oY, qX5, hDP, hr0, hr1, ht0, hu0, hu1, hv0⟩ := HY.out
   have hfs := hY5.fs
   rw [HXn.out.2.2] at hfs
   have own7 := row_keep hfs ((B.refl w5).alloc #[.string { data := #[112, 108, 97, 116, 101] }, .int .i64 0, .int .i64 0, .int .i64 vv] 41)
   have oY7 := ((B.refl w5).alloc #[.string { data := #[112, 108, 97, 116, 101] }, .int .i64 0, .int .i64 0, .int .i64 vv] 41).obj oY
   have qX7 := qX5.alloc #[.string { data := #[112, 108, 97, 116, 101] }, .int .i64 0, .int .i64 0, .int .i64 vv] 41
   have t57 := (Tn.refl [some 41] 0 w5).alloc #[.string { data := #[112, 108, 97, 116, 101] }, .int .i64 0, .int .i64 0, .int .i64 vv] 41
   have hbz := qX7.below.size
   have hn3 : n3 ≤ 20 := by rw [← HXn.out.2.2]; exact HSD.out.2.2
   have HQ7 := Lib.hid (And.intro qX7 (And.intro oY7 t57))
   clear hY5 oY oY7 qX5 qX7 t57 hDP hr0 hr1 ht0 hu0 hu1 hv0 hfs
   go_wp2_with (at_builtin; refine wpList_append_lies _ rfl _ _ 24 rfl wX.heap.size 41 i0 _ 4 40 Tryz.underlying24 hi0 hz0 hz1 hz2 rfl (by omega) (.slice gfo n3 cf) n3 _ rfl own7 ⟨_, 0, none⟩ 1 1 [.string { data := #[112, 108, 97, 116, 101] }, .int .i64 0, .int .i64 0, .int .i64 vv] rfl rfl (newest (by simp)) (fun u hu => by simp only [List.mem_cons, List.not_mem_nil, or_false] at hu; rcases hu with rfl | rfl | rfl | rfl <;> rfl) (by omega) (by unfold maxLen; omega) (by omega) (by omega) _ rfl ?_; intro g1 c1' W8 hown8 hgrow8 hat8 hlt8; have qB8 := HQ7.out.1.grownBy hgrow8 (fun x hx => (own7.lt x hx).1); have t8 := HQ7.out.2.2.appended own7 hgrow8 (Nat.zero_le _) (by simp); have oY8 := t8.objc HY.out.2.1 (by decide); have k8 : W8.cell? ⟨NY, 2, none⟩ = some (.slice gfo n3 cf) := obj_cell oY8 2; have f8 : W8.frozen? ⟨NY, 2, none⟩ = false := obj_free oY8 2; replace hown8 := Lib.hid (And.intro hown8 (And.intro qB8 t8)); clear hgrow8 hat8 hlt8 qB8 own7 t8 oY8; go_wp2_with fail)
   go_meet
   case rel =>
    obtain ⟨hY5, oY, qX5, hDP, hr0, hr1, ht0, hu0, hu1, hv0⟩ := HY.out
    have h2 := hown8.out.1
    rw [← HXn.out.2.2] at h2
    exact ⟨rfl, by
     have h := bent_more (f := ⟨{ data := #[112, 108, 97, 116, 101] }, 0, 0, vv⟩) hY5 oY HNY.out hDP (by have := HSD.out.2.2; omega) ⟨show (5 : Nat) ≤ maxLen by unfold maxLen; omega, show I64 0 by unfold I64; omega, show I64 0 by unfold I64; omega⟩ hown8.out.2.2 hown8.out.2.1 h2
     rw [HXn.out.2.2] at h
     exact h⟩
  ·have tq0 : ((((8 : Nat) : Int)) == 0) = false := rfl
   have tq1 : ((((8 : Nat) : Int)) == 1) = false := rfl
   have tq2 : ((((8 : Nat) : Int)) == 2) = false := rfl
   have tq3 : ((((8 : Nat) : Int)) == 3) = false := rfl
   have tq4 : ((((8 : Nat) : Int)) == 4) = false := rfl
   have tq5 : ((((8 : Nat) : Int)) == 5) = false := rfl
   have tq6 : ((((8 : Nat) : Int)) == 6) = false := rfl
   have tq7 : ((((8 : Nat) : Int)) == 7) = false := rfl
   have tq8 : ((((8 : Nat) : Int)) == 8) = true := rfl
   obtain ⟨hY5, oY, qX5, hDP, hr0, hr1, ht0, hu0, hu1, hv0⟩ := HY.out
   obtain ⟨y1, z9, _⟩ := hY5.cellW (c := 2) HXn.out.1.symm hr1 hu1 (by omega)
   replace y1 : w5.cell? ⟨gw, 7, none⟩ = some (.int .i64 r1.y) := y1
   replace z9 : w5.frozen? ⟨gw, 7, none⟩ = false := z9
   clear hY5 oY qX5 hDP hr0 hr1 ht0 hu0 hu1 hv0
   go_wp2_with fail
   go_meet
   case rel =>
    obtain ⟨hY5, oY, qX5, hDP, hr0, hr1, ht0, hu0, hu1, hv0⟩ := HY.out
    exact ⟨rfl, bent_putW (i := 1) (c := 2) hY5 oY hDP qX5 HXn.out.1.symm hr1 hu1 { r1 with y := vv } (.int .i64 vv) (by omega) rfl rfl (hDP.wn r1 (List.mem_of_getElem? hr1)) ⟨(hDP.wi r1 (List.mem_of_getElem? hr1)).1, HV.out⟩⟩
  ·have tq0 : ((((9 : Nat) : Int)) == 0) = false := rfl
   have tq1 : ((((9 : Nat) : Int)) == 1) = false := rfl
   have tq2 : ((((9 : Nat) : Int)) == 2) = false := rfl
   have tq3 : ((((9 : Nat) : Int)) == 3) = false := rfl
   have tq4 : ((((9 : Nat) : Int)) == 4) = false := rfl
   have tq5 : ((((9 : Nat) : Int)) == 5) = false := rfl
   have tq6 : ((((9 : Nat) : Int)) == 6) = false := rfl
   have tq7 : ((((9 : Nat) : Int)) == 7) = false := rfl
   have tq8 : ((((9 : Nat) : Int)) == 8) = false := rfl
   have tq9 : ((((9 : Nat) : Int)) == 9) = true := rfl
   obtain ⟨hY5, oY, qX5, hDP, hr0, hr1, ht0, hu0, hu1, hv0⟩ := HY.out
   obtain ⟨y1, z9, _⟩ := hY5.cellT (c := 0) HXn.out.2.1.symm ht0 hv0 (by omega)
   replace y1 : w5.cell? ⟨gt, 0, none⟩ = some (.string t0.n) := by rw [Nat.zero_mul, Nat.zero_add] at y1; exact y1
   replace z9 : w5.frozen? ⟨gt, 0, none⟩ = false := by rw [Nat.zero_mul, Nat.zero_add] at z9; exact z9
   clear hY5 oY qX5 hDP hr0 hr1 ht0 hu0 hu1 hv0
   go_wp2_with fail
   go_meet
   case rel =>
    obtain ⟨hY5, oY, qX5, hDP, hr0, hr1, ht0, hu0, hu1, hv0⟩ := HY.out
    have h := bent_putT (i := 0) (c := 0) hY5 oY hDP qX5 HXn.out.2.1.symm ht0 hv0 { t0 with n := { data := #[84] } } (.string { data := #[84] }) (by omega) rfl rfl (show (1 : Nat) ≤ maxLen by unfold maxLen; omega)
    exact ⟨rfl, by rw [Nat.zero_mul, Nat.zero_add] at h; exact h⟩
  ·have tq0 : ((((10 : Nat) : Int)) == 0) = false := rfl
   have tq1 : ((((10 : Nat) : Int)) == 1) = false := rfl
   have tq2 : ((((10 : Nat) : Int)) == 2) = false := rfl
   have tq3 : ((((10 : Nat) : Int)) == 3) = false := rfl
   have tq4 : ((((10 : Nat) : Int)) == 4) = false := rfl
   have tq5 : ((((10 : Nat) : Int)) == 5) = false := rfl
   have tq6 : ((((10 : Nat) : Int)) == 6) = false := rfl
   have tq7 : ((((10 : Nat) : Int)) == 7) = false := rfl
   have tq8 : ((((10 : Nat) : Int)) == 8) = false := rfl
   have tq9 : ((((10 : Nat) : Int)) == 9) = false := rfl
   have tq10 : ((((10 : Nat) : Int)) == 10) = true := rfl
   obtain ⟨hY5, oY, qX5, hDP, hr0, hr1, ht0, hu0, hu1, hv0⟩ := HY.out
   obtain ⟨y1, z9, _⟩ := hY5.cellT (c := 4) HXn.out.2.1.symm ht0 hv0 (by omega)
   replace y1 : w5.cell? ⟨gt, 4, none⟩ = some v0 := by rw [Nat.zero_mul, Nat.zero_add] at y1; exact y1
   replace z9 : w5.frozen? ⟨gt, 4, none⟩ = false := by rw [Nat.zero_mul, Nat.zero_add] at z9; exact z9
   clear hY5 oY qX5 hDP hr0 hr1 ht0 hu0 hu1 hv0
   go_wp2_with fail
   go_meet
   case rel =>
    obtain ⟨hY5, oY, qX5, hDP, hr0, hr1, ht0, hu0, hu1, hv0⟩ := HY.out
    have h := bent_noOuter (i := 0) hY5 oY hDP qX5 HXn.out.2.1.symm ht0 hv0
    exact ⟨rfl, by rw [Nat.zero_mul, Nat.zero_add] at h; exact h⟩
  ·have tq0 : ((((11 : Nat) : Int)) == 0) = false := rfl
   have tq1 : ((((11 : Nat) : Int)) == 1) = false := rfl
   have tq2 : ((((11 : Nat) : Int)) == 2) = false := rfl
   have tq3 : ((((11 : Nat) : Int)) == 3) = false := rfl
   have tq4 : ((((11 : Nat) : Int)) == 4) = false := rfl
   have tq5 : ((((11 : Nat) : Int)) == 5) = false := rfl
   have tq6 : ((((11 : Nat) : Int)) == 6) = false := rfl
   have tq7 : ((((11 : Nat) : Int)) == 7) = false := rfl
   have tq8 : ((((11 : Nat) : Int)) == 8) = false := rfl
   have tq9 : ((((11 : Nat) : Int)) == 9) = false := rfl
   have tq10 : ((((11 : Nat) : Int)) == 10) = false := rfl
   go_wp2_with fail
   go_meet
   case rel =>
    obtain ⟨hY5, oY, qX5, hDP, hr0, hr1, ht0, hu0, hu1, hv0⟩ := HY.out
    exact ⟨rfl, hY5.bentAt oY hDP qX5⟩
 case rest =>
  obtain ⟨rfl, yw2, yt2, yf2, D2, oY2, hD2, hP2, qXc⟩ := hcut
  obtain ⟨p0o, p0c, p1o, p1c, p2o, p2c, rfl, rfl, rfl⟩ := hD2.forms
  obtain ⟨m1, hm1⟩ : ∃ n, D2.ws.length = n := ⟨_, rfl⟩
  obtain ⟨m2, hm2⟩ : ∃ n, D2.ts.length = n := ⟨_, rfl⟩
  obtain ⟨m3, hm3⟩ : ∃ n, D2.fs.length = n := ⟨_, rfl⟩
  rw [hm1, hm2, hm3] at oY2 hD2
  have q0c := q0X.trans qXc
  have oA := qXc.obj o3X
  have oB := qXc.obj oX
  have a0 : wc.cell? ⟨N0, 0, none⟩ = some (.slice ao nw ac) := obj_cell oA 0
  have a1 : wc.cell? ⟨N0, 1, none⟩ = some (.slice bo nt bc) := obj_cell oA 1
  have a2 : wc.cell? ⟨N0, 2, none⟩ = some (.slice co nf cc) := obj_cell oA 2
  have b0 : wc.cell? ⟨NX, 0, none⟩ = some (.slice xwo 2 xwc) := obj_cell oB 0
  have b1 : wc.cell? ⟨NX, 1, none⟩ = some (.slice xto n2 xtc) := obj_cell oB 1
  have b2 : wc.cell? ⟨NX, 2, none⟩ = some (.slice xfo n3 xfc) := obj_cell oB 2
  have c0 : wc.cell? ⟨NY, 0, none⟩ = some (.slice p0o m1 p0c) := obj_cell oY2 0
  have c1 : wc.cell? ⟨NY, 1, none⟩ = some (.slice p1o m2 p1c) := obj_cell oY2 1
  have c2 : wc.cell? ⟨NY, 2, none⟩ = some (.slice p2o m3 p2c) := obj_cell oY2 2
  have hA : IsDk wc (.slice ao nw ac) (.slice bo nt bc) (.slice co nf cc) d9 := by
   have h := HD.out.1.keepB q0c
   rw [HN.out.1, HN.out.2.1, HN.out.2.2.1] at h
   exact h
  have hB : IsDk wc (.slice xwo 2 xwc) (.slice xto n2 xtc) (.slice xfo n3 xfc) SD := hXX.keepB qXc
  have hPA : DkP d9 := HD.out.2 (by
   have hl := HL.out
   unfold lightD at hl
   simp only [Bool.and_eq_true, decide_eq_true_eq] at hl
   omega)
  have q1 := (B.refl wc).alloc #[.slice ao nw ac, .slice bo nt bc, .slice co nf cc, .slice xwo 2 xwc, .slice xto n2 xtc, .slice xfo n3 xfc, .slice p0o m1 p0c, .slice p1o m2 p1c, .slice p2o m3 p2c] 26
  have oZ := obj_new wc (.cells #[.slice ao nw ac, .slice bo nt bc, .slice co nf cc, .slice xwo 2 xwc, .slice xto n2 xtc, .slice xfo n3 xfc, .slice p0o m1 p0c, .slice p1o m2 p1c, .slice p2o m3 p2c] 26)
  have hz : ∀ t, t < 3 → ∃ z0o z0n z0c z1o z1n z1c z2o z2n z2c Z, (wc.alloc (.cells #[.slice ao nw ac, .slice bo nt bc, .slice co nf cc, .slice xwo 2 xwc, .slice xto n2 xtc, .slice xfo n3 xfc, .slice p0o m1 p0c, .slice p1o m2 p1c, .slice p2o m3 p2c] 26)).cell? ⟨wc.heap.size, t * 3, none⟩ = some (.slice z0o z0n z0c) ∧ (wc.alloc (.cells #[.slice ao nw ac, .slice bo nt bc, .slice co nf cc, .slice xwo 2 xwc, .slice xto n2 xtc, .slice xfo n3 xfc, .slice p0o m1 p0c, .slice p1o m2 p1c, .slice p2o m3 p2c] 26)).cell? ⟨wc.heap.size, t * 3 + 1, none⟩ = some (.slice z1o z1n z1c) ∧ (wc.alloc (.cells #[.slice ao nw ac, .slice bo nt bc, .slice co nf cc, .slice xwo 2 xwc, .slice xto n2 xtc, .slice xfo n3 xfc, .slice p0o m1 p0c, .slice p1o m2 p1c, .slice p2o m3 p2c] 26)).cell? ⟨wc.heap.size, t * 3 + 2, none⟩ = some (.slice z2o z2n z2c) ∧ IsDk (wc.alloc (.cells #[.slice ao nw ac, .slice bo nt bc, .slice co nf cc, .slice xwo 2 xwc, .slice xto n2 xtc, .slice xfo n3 xfc, .slice p0o m1 p0c, .slice p1o m2 p1c, .slice p2o m3 p2c] 26)) (.slice z0o z0n z0c) (.slice z1o z1n z1c) (.slice z2o z2n z2c) Z ∧ DkP Z := fun t ht => by
   match t, ht with
   | 0, _ => exact ⟨ao, nw, ac, bo, nt, bc, co, nf, cc, d9, obj_cell oZ 0, obj_cell oZ 1, obj_cell oZ 2, hA.keepB q1, hPA⟩
   | 1, _ => exact ⟨xwo, 2, xwc, xto, n2, xtc, xfo, n3, xfc, SD, obj_cell oZ 3, obj_cell oZ 4, obj_cell oZ 5, hB.keepB q1, HSD.out.2.1⟩
   | 2, _ => exact ⟨p0o, m1, p0c, p1o, m2, p1c, p2o, m3, p2c, D2, obj_cell oZ 6, obj_cell oZ 7, obj_cell oZ 8, hD2.keepB q1, hP2⟩
  have HZ := Lib.hid (And.intro hz (q0c.trans q1))
  clear hz hA hB hPA q1 oZ hD2 hP2 oY2 oA oB q0c hm1 hm2 hm3 qXc
  go_wp2_with fail
  clear a0 a1 a2 b0 b1 b2 c0 c1 c2
  generalize wc.alloc (.cells #[.slice ao nw ac, .slice bo nt bc, .slice co nf cc, .slice xwo 2 xwc, .slice xto n2 xtc, .slice xfo n3 xfc, .slice p0o m1 p0c, .slice p1o m2 p1c, .slice p2o m3 p2c] 26) = wB at *
  generalize wc.heap.size = ZB at *
  go_loopw [138] (fun iv wr => ∃ t : Nat, t ≤ 3 ∧ iv = .int .i64 t ∧ B wB wr) (fun iv _ => 4 - (intOf iv).toNat)
  case atStart => exact ⟨0, Nat.zero_le _, rfl, B.refl _⟩
  case round =>
   obtain ⟨t, ht, rfl, qt⟩ := hrel
   obtain ⟨wt, rfl⟩ : ∃ wt : World, wt = wr := ⟨_, rfl⟩
   by_cases hl3 : t < 3
   ·have hlB3 : decide ((t : Int) < (3 : Int)) = true := decide_eq_true (by omega)
    have hlN3 : decide (t < 3) = true := decide_eq_true hl3
    have hlI3 : (t : Int) < (3 : Int) := by omega
    have ht0 : (0 : Int) ≤ (t : Int) := by omega
    have wk3 : IntKind.i64.wrap ((t : Int) + 1) = (t : Int) + 1 := by rw [IntKind.wrap_i64]; omega
    obtain ⟨z0o, z0n, z0c, z1o, z1n, z1c, z2o, z2n, z2c, Z, c0, c1, c2, hDz, hPz⟩ := HZ.out.1 t hl3
    replace c0 := qt.keep c0
    replace c1 := qt.keep c1
    replace c2 := qt.keep c2
    obtain ⟨wb, hwb⟩ : ∃ wb, wt.alloc (.cells #[.slice z0o z0n z0c, .slice z1o z1n z1c, .slice z2o z2n z2c] 26) = wb := ⟨_, rfl⟩
    have qb : B wt wb := by rw [← hwb]; exact (B.refl wt).alloc _ _
    have ob : wb.heap[wt.heap.size]? = some (.cells #[.slice z0o z0n z0c, .slice z1o z1n z1c, .slice z2o z2n z2c] 26 (0, 0)) := by rw [← hwb]; exact obj_new wt _
    have kb0 : wb.cell? ⟨wt.heap.size, 0, none⟩ = some (.slice z0o z0n z0c) := obj_cell ob 0
    have kb1 : wb.cell? ⟨wt.heap.size, 1, none⟩ = some (.slice z1o z1n z1c) := obj_cell ob 1
    have kb2 : wb.cell? ⟨wt.heap.size, 2, none⟩ = some (.slice z2o z2n z2c) := obj_cell ob 2
    have htb := (HZ.out.2.trans qt).trans qb
    have hDb := (hDz.keepB qt).keepB qb
    have few9 : Z.fs.length < 1000 := by have := hPz.few; omega
    have cP := print9_any _ _ _ Z wb hDb hPz.wn hPz.wi hPz.tn hPz.fi few9 (Lib.TabBelow.here ((Lib.tabBelow_of_tabIs HT.out).on htb.below))
    have cR9 := fun w' (q : B wb w') => right9_any _ _ _ Z w' (hDb.keepB q) hPz.wn hPz.wi hPz.tn hPz.fi few9
    have cR8 := fun w' (q : B wb w') => r8deckright_any _ _ _ Z w' (hDb.keepB q)
    have cP8 := fun w' (q : B wb w') => r8print_any _ _ _ Z w' (hDb.keepB q) few9
    have cH := fun w' (q : B wb w') v0 v1 v2 h2 => helpdeck_any v0 v1 v2 _ _ _ Z w' h2 (hDb.keepB q)
    have hback := fun h => deck_back (d := Z) h hPz.few
    have HX9 := Lib.hid (And.intro hback (And.intro htb (And.intro hl3 (And.intro qt qb))))
    clear hback htb hl3 qt ht hDb hDz hPz few9
    generalize textD Z = TX at *
    generalize rightD Z = OK at *
    go_wp2_with fail
    generalize wt.heap.size = NB at *
    clear hwb c0 c1 c2
    refine cP.mono ?_
    rintro _ wP ⟨rfl, qP⟩
    have op := qP.obj ob
    have k0 : wP.cell? ⟨NB, 0, none⟩ = some (.slice z0o z0n z0c) := obj_cell op 0
    have k1 : wP.cell? ⟨NB, 1, none⟩ = some (.slice z1o z1n z1c) := obj_cell op 1
    have k2 : wP.cell? ⟨NB, 2, none⟩ = some (.slice z2o z2n z2c) := obj_cell op 2
    clear cP ob kb0 kb1 kb2
    have cR91 := fun w' (q : B wP w') => cR9 w' (qP.trans q)
    have cR81 := fun w' (q : B wP w') => cR8 w' (qP.trans q)
    have cP81 := fun w' (q : B wP w') => cP8 w' (qP.trans q)
    have qd : B wP wP.drew := (B.refl _).drew
    have HQP := Lib.hid (And.intro qP op)
    clear cP8 cR9 qP op
    cases OK
    ·go_wp2_with fail
     refine wp_region_noPanic ?_
     refine wp_region_seq (S := fun w' => w'.cell? ⟨NB, 0, none⟩ = some (.slice z0o z0n z0c) ∧ w'.cell? ⟨NB, 1, none⟩ = some (.slice z1o z1n z1c) ∧ w'.cell? ⟨NB, 2, none⟩ = some (.slice z2o z2n z2c) ∧ B wP w') [(0, 0), (2, 0), (1, 2), (3, 2), (4, 0), (5, 0), (6, 0), (7, 0), (8, 2), (9, 0), (10, 0)] [0, 1, 0, 6, 10, 24, 32, 32, 160, 352, 544] [0, 1, 0, 4, 10, 16, 32, 32, 160, 352, 544] (by kernel_rfl) (by kernel_rfl) (fun _ _ _ _ _ h => h) ?_ (fun hH => ?_)
     ·exact ⟨qd.keep k0, qd.keep k1, qd.keep k2, qd⟩
     refine wpSeq_take (d := 144) rfl rfl (by kernel_rfl) (fun w hS => by go_simp <;> with_reducible rfl) ?_
     dsimp only [sZ, sS]
     refine wpSeq_take (d := 146) rfl rfl (by kernel_rfl) (fun w hS => by go_simp <;> with_reducible rfl) ?_
     dsimp only [sZ, sS]
     refine wpSeq_call rfl (by kernel_rfl) (fun K hK => ?_)
     go_simp
     (with_reducible refine (cR91 _ hH.2.2.2).mono ?_)
     rintro e w' ⟨rfl, hq⟩
     refine hK.out _ _ ?_ (fun hH => ?_)
     ·exact ⟨hq.keep (hH.1), hq.keep (hH.2.1), hq.keep (hH.2.2.1), (hH.2.2.2).trans hq⟩
     clear hK
     refine wpSeq_call rfl (by kernel_rfl) (fun K hK => ?_)
     go_simp
     (with_reducible refine (cR81 _ hH.2.2.2).mono ?_)
     rintro e w' ⟨rfl, hq⟩
     refine hK.out _ _ ?_ (fun hH => ?_)
     ·exact ⟨hq.keep (hH.1), hq.keep (hH.2.1), hq.keep (hH.2.2.1), (hH.2.2.2).trans hq⟩
     clear hK
     refine wpSeq_take (d := 148) rfl rfl (by kernel_rfl) (fun w hS => by go_simp <;> with_reducible rfl) ?_
     dsimp only [sZ, sS]
     refine wpSeq_take (d := 149) rfl rfl (by kernel_rfl) (fun w hS => by go_simp <;> with_reducible rfl) ?_
     dsimp only [sZ, sS]
     refine wpSeq_take (d := 150) rfl rfl (by kernel_rfl) (fun w hS => by go_simp <;> with_reducible rfl) ?_
     dsimp only [sZ, sS]
     refine wpSeq_take (d := 151) rfl rfl (by kernel_rfl) (fun w hS => by go_simp <;> with_reducible rfl) ?_
     dsimp only [sZ, sS]
     refine wpSeq_call rfl (by kernel_rfl) (fun K hK => ?_)
     go_simp
     (with_reducible refine (cP81 _ hH.2.2.2).mono ?_)
     rintro e w' ⟨rfl, hq⟩
     refine hK.out _ _ ?_ (fun hH => ?_)
     ·exact ⟨hq.keep (hH.1), hq.keep (hH.2.1), hq.keep (hH.2.2.1), (hH.2.2.2).trans hq⟩
     clear hK
     refine wpSeq_take (d := 153) rfl rfl (by kernel_rfl) (fun w hS => by go_simp <;> with_reducible rfl) ?_
     dsimp only [sZ, sS]
     refine wpSeq_take (d := 154) rfl rfl (by kernel_rfl) (fun w hS => by go_simp <;> with_reducible rfl) ?_
     dsimp only [sZ, sS]
     refine wpSeq_done ?_
     refine NoPanic.normal ?_
     have qPS := hH.2.2.2
     have HS := Lib.hid (HQP.out.1.trans qPS)
     have opS := qPS.obj HQP.out.2
     have s0 : w'.cell? ⟨NB, 0, none⟩ = some (.slice z0o z0n z0c) := obj_cell opS 0
     have s1 : w'.cell? ⟨NB, 1, none⟩ = some (.slice z1o z1n z1c) := obj_cell opS 1
     have s2 : w'.cell? ⟨NB, 2, none⟩ = some (.slice z2o z2n z2c) := obj_cell opS 2
     have c5 := cR8 _ HS.out
     clear hH qd cR91 cR81 cP81 cR8 qPS k0 k1 k2 opS
     go_wp2_with fail
     refine c5.mono ?_
     rintro _ wU ⟨rfl, qU⟩
     have HU := Lib.hid (HS.out.trans qU)
     clear c5 qU s0 s1 s2
     go_wp2_with fail
     exact ⟨⟨t + 1, by have := HX9.out.2.2.1; omega, by go_num, (HX9.out.2.2.2.1.trans HX9.out.2.2.2.2).trans HU.out⟩, by have := HX9.out.2.2.1; simp [intOf]; omega⟩
    ·go_wp2_with fail
     refine wp_region_noPanic ?_
     refine wp_region_seq (S := fun w' => w'.cell? ⟨NB, 0, none⟩ = some (.slice z0o z0n z0c) ∧ w'.cell? ⟨NB, 1, none⟩ = some (.slice z1o z1n z1c) ∧ w'.cell? ⟨NB, 2, none⟩ = some (.slice z2o z2n z2c) ∧ B wP w') [(0, 0), (2, 0), (1, 2), (3, 2), (4, 0), (5, 0), (6, 0), (7, 0), (8, 2), (9, 0), (10, 0)] [0, 1, 0, 6, 10, 24, 32, 32, 160, 352, 544] [0, 1, 0, 4, 10, 16, 32, 32, 160, 352, 544] (by kernel_rfl) (by kernel_rfl) (fun _ _ _ _ _ h => h) ?_ (fun hH => ?_)
     ·exact ⟨qd.keep k0, qd.keep k1, qd.keep k2, qd⟩
     refine wpSeq_take (d := 144) rfl rfl (by kernel_rfl) (fun w hS => by go_simp <;> with_reducible rfl) ?_
     dsimp only [sZ, sS]
     refine wpSeq_take (d := 146) rfl rfl (by kernel_rfl) (fun w hS => by go_simp <;> with_reducible rfl) ?_
     dsimp only [sZ, sS]
     refine wpSeq_call rfl (by kernel_rfl) (fun K hK => ?_)
     go_simp
     (with_reducible refine (cR91 _ hH.2.2.2).mono ?_)
     rintro e w' ⟨rfl, hq⟩
     refine hK.out _ _ ?_ (fun hH => ?_)
     ·exact ⟨hq.keep (hH.1), hq.keep (hH.2.1), hq.keep (hH.2.2.1), (hH.2.2.2).trans hq⟩
     clear hK
     refine wpSeq_call rfl (by kernel_rfl) (fun K hK => ?_)
     go_simp
     (with_reducible refine (cR81 _ hH.2.2.2).mono ?_)
     rintro e w' ⟨rfl, hq⟩
     refine hK.out _ _ ?_ (fun hH => ?_)
     ·exact ⟨hq.keep (hH.1), hq.keep (hH.2.1), hq.keep (hH.2.2.1), (hH.2.2.2).trans hq⟩
     clear hK
     refine wpSeq_take (d := 148) rfl rfl (by kernel_rfl) (fun w hS => by go_simp <;> with_reducible rfl) ?_
     dsimp only [sZ, sS]
     refine wpSeq_take (d := 149) rfl rfl (by kernel_rfl) (fun w hS => by go_simp <;> with_reducible rfl) ?_
     dsimp only [sZ, sS]
     refine wpSeq_take (d := 150) rfl rfl (by kernel_rfl) (fun w hS => by go_simp <;> with_reducible rfl) ?_
     dsimp only [sZ, sS]
     refine wpSeq_take (d := 151) rfl rfl (by kernel_rfl) (fun w hS => by go_simp <;> with_reducible rfl) ?_
     dsimp only [sZ, sS]
     refine wpSeq_call rfl (by kernel_rfl) (fun K hK => ?_)
     go_simp
     (with_reducible refine (cP81 _ hH.2.2.2).mono ?_)
     rintro e w' ⟨rfl, hq⟩
     refine hK.out _ _ ?_ (fun hH => ?_)
     ·exact ⟨hq.keep (hH.1), hq.keep (hH.2.1), hq.keep (hH.2.2.1), (hH.2.2.2).trans hq⟩
     clear hK
     refine wpSeq_take (d := 153) rfl rfl (by kernel_rfl) (fun w hS => by go_simp <;> with_reducible rfl) ?_
     dsimp only [sZ, sS]
     refine wpSeq_take (d := 154) rfl rfl (by kernel_rfl) (fun w hS => by go_simp <;> with_reducible rfl) ?_
     dsimp only [sZ, sS]
     refine wpSeq_done ?_
     refine NoPanic.normal ?_
     have qPS := hH.2.2.2
     have HS := Lib.hid (HQP.out.1.trans qPS)
     have opS := qPS.obj HQP.out.2
     have s0 : w'.cell? ⟨NB, 0, none⟩ = some (.slice z0o z0n z0c) := obj_cell opS 0
     have s1 : w'.cell? ⟨NB, 1, none⟩ = some (.slice z1o z1n z1c) := obj_cell opS 1
     have s2 : w'.cell? ⟨NB, 2, none⟩ = some (.slice z2o z2n z2c) := obj_cell opS 2
     have c5 := cR8 _ HS.out
     clear hH qd cR91 cR81 cP81 cR8 qPS k0 k1 k2
     go_wp2_with fail
     refine c5.mono ?_
     rintro _ wU ⟨rfl, qU⟩
     have qPU := HS.out.trans qU
     have oU := qU.obj opS
     clear c5 qU s0 s1 s2 opS
     obtain ⟨LL, s1, s2, s3, s4, s5, s6, hlen⟩ := HX9.out.1 trivial
     have hcv := Lib.run_convert_string_bytes (P := Tryz.prog) wU 9 47 5 (strB TX) Tryz.underlying9 Tryz.underlying47 Tryz.underlying5
     have IB := isB_conv wU 5 TX (by omega)
     have b3 := qPU.trans (conv_b wU 5 (strB TX))
     have oV := (conv_b wU 5 (strB TX)).obj oU
     simp only [strB_size] at hcv IB
     generalize grownCap wU TX.length 0 5 = cap9 at *
     generalize Lib.bytesWorld wU 5 (strB TX) = wV at *
     generalize wU.heap.size = NV at *
     have cL := r8lines_any _ _ _ _ TX wV IB
     unfold LinesRes at cL
     rw [s1] at cL
     simp only at cL
     have HSB := Lib.hid (And.intro s2 (And.intro s3 (And.intro s4 (And.intro s5 (And.intro s6 (And.intro b3 oV))))))
     clear s1 s2 s3 s4 s5 s6 hlen qPU b3 oU oV
     go_wp2_with fail
     refine cL.mono ?_
     rintro _ w6 ⟨v6, rfl, hv6, q6⟩
     have c6 := words9_any v6 LL w6 hv6.lnO HSB.out.2.1 HSB.out.2.2.1 HSB.out.2.2.2.1
     have HV6 := Lib.hid (And.intro (HSB.out.2.2.2.2.2.1.trans q6) (q6.obj HSB.out.2.2.2.2.2.2))
     clear cL hcv IB q6
     obtain ⟨v6o, v6c, rfl⟩ := hv6.lnO.form
     clear hv6
     go_wp2_with fail
     refine c6.mono ?_
     rintro _ w7 ⟨u7, vs7, rfl, hO7, q7⟩
     have c7 := parse_any u7 LL w7 hO7.is.lnO HSB.out.2.1 HSB.out.2.2.1 HSB.out.2.2.2.1 HSB.out.2.2.2.2.1
     unfold ParseRes at c7
     rw [HSB.out.1] at c7
     have HV7 := Lib.hid (And.intro (HV6.out.1.trans q7) (q7.obj HV6.out.2))
     obtain ⟨u7o, u7c, rfl⟩ := hO7.is.lnO.form
     clear c6 hO7 q7
     go_wp2_with fail
     refine c7.mono ?_
     rintro _ w8 ⟨w8v, t8v, f8v, r8v, rfl, hD8, hP8, q8⟩
     obtain ⟨g8o, g8c, rfl⟩ : ∃ ao cap, r8v = .slice ao 0 cap := hP8.form
     obtain ⟨w9, hw9⟩ : ∃ w9, w8.alloc (.cells #[w8v, t8v, f8v] 26) = w9 := ⟨_, rfl⟩
     have q89 : B w8 w9 := by rw [← hw9]; exact (B.refl w8).alloc _ _
     have o9 : w9.heap[w8.heap.size]? = some (.cells #[w8v, t8v, f8v] 26 (0, 0)) := by rw [← hw9]; exact obj_new w8 _
     have oB9 := q89.obj (q8.obj HV7.out.2)
     have q09 := (HV7.out.1.trans q8).trans q89
     have c8 := cH _ q09 _ _ _ (hD8.keepB q89)
     obtain ⟨j0, l0, i0, j1, l1, i1, rfl, rfl, rfl⟩ := hD8.forms
     have s0 : w9.cell? ⟨NB, 0, none⟩ = some (.slice z0o z0n z0c) := obj_cell oB9 0
     have s1 : w9.cell? ⟨NB, 1, none⟩ = some (.slice z1o z1n z1c) := obj_cell oB9 1
     have s2 : w9.cell? ⟨NB, 2, none⟩ = some (.slice z2o z2n z2c) := obj_cell oB9 2
     have x0 := obj_cell o9 0
     have x1 := obj_cell o9 1
     have x2 := obj_cell o9 2
     simp only [List.getElem?_toArray, List.getElem?_cons_zero, List.getElem?_cons_succ] at x0 x1 x2
     have HV8 := Lib.hid q09
     clear c7 cH q8 hP8 hD8 q09 o9 oB9 q89
     go_wp2_with fail
     refine c8.mono ?_
     rintro _ wE ⟨rfl, qE⟩
     have HV9 := Lib.hid (HV8.out.trans qE.b)
     clear c8 qE
     go_wp2_with fail
     exact ⟨⟨t + 1, by have := HX9.out.2.2.1; omega, by go_num, (HX9.out.2.2.2.1.trans HX9.out.2.2.2.2).trans HV9.out⟩, by have := HX9.out.2.2.1; simp [intOf]; omega⟩
   ·have hlB3 : decide ((t : Int) < (3 : Int)) = false := decide_eq_false (by omega)
    have hlN3 : decide (t < 3) = false := decide_eq_false hl3
    have HF := Lib.hid (HZ.out.2.trans qt)
    clear qt ht hl3
    go_wp2
    go_ret
    exact ⟨rfl, HF.out⟩
end Go.Proofs.YtglniapfnhedoaaGreatDoor
namespace Go.Proofs.YtglniapfnhedoaaGreatDoor
open Go.RowKit Go.ChangeShapes Go.WideShapes Go.ChangeAt Go.Deep
set_option maxRecDepth 100000 in
theorem sec_open {H : Type} {enc : TypeId × Value → H} {W : World} {base : Nat} {sp : Nat → Bool} {held : Bool} {fuel : Nat} {cs : List Value} {x : DataW H × List MemPlace}
  (h : DataW.trod enc Tryz.prog W base sp held fuel 37 cs = some x) : ∃ s : Sec, s.I ∧ cs = s.cells := by
 obtain ⟨xs, n, _, _, hl, hlen, hf⟩ := DataW.trod_struct Tryz.underlying37 h
 rw [show Tryz.prog.cellsOf 37 = 6 by kernel_rfl] at hl
 have c1 : Tryz.prog.cellsOf 2 = 1 := by kernel_rfl
 have c0 : Tryz.prog.cellsOf 4 = 1 := by kernel_rfl
 match xs, hlen, cs, hl with
 | [x0, x1, x2, x3, x4, x5], _, [v0, v1, v2, v3, v4, v5], _ =>
  have f0 : DataW.trod enc Tryz.prog W base sp held n 4 (([v0, v1, v2, v3, v4, v5].drop 0).take (Tryz.prog.cellsOf 4)) = some x0 := hf 0 _ rfl
  have f1 : DataW.trod enc Tryz.prog W base sp held n 2 (([v0, v1, v2, v3, v4, v5].drop 1).take (Tryz.prog.cellsOf 2)) = some x1 := hf 1 _ rfl
  have f2 : DataW.trod enc Tryz.prog W base sp held n 2 (([v0, v1, v2, v3, v4, v5].drop 2).take (Tryz.prog.cellsOf 2)) = some x2 := hf 2 _ rfl
  have f3 : DataW.trod enc Tryz.prog W base sp held n 2 (([v0, v1, v2, v3, v4, v5].drop 3).take (Tryz.prog.cellsOf 2)) = some x3 := hf 3 _ rfl
  have f4 : DataW.trod enc Tryz.prog W base sp held n 2 (([v0, v1, v2, v3, v4, v5].drop 4).take (Tryz.prog.cellsOf 2)) = some x4 := hf 4 _ rfl
  have f5 : DataW.trod enc Tryz.prog W base sp held n 2 (([v0, v1, v2, v3, v4, v5].drop 5).take (Tryz.prog.cellsOf 2)) = some x5 := hf 5 _ rfl
  rw [c0] at f0
  rw [c1] at f1 f2 f3 f4 f5
  obtain ⟨r, e0, _⟩ := DataW.trod_bool Tryz.underlying4 f0
  obtain ⟨a1, e1, _, w1⟩ := DataW.trod_int Tryz.underlying2 f1
  obtain ⟨a2, e2, _, w2⟩ := DataW.trod_int Tryz.underlying2 f2
  obtain ⟨a3, e3, _, w3⟩ := DataW.trod_int Tryz.underlying2 f3
  obtain ⟨a4, e4, _, w4⟩ := DataW.trod_int Tryz.underlying2 f4
  obtain ⟨a5, e5, _, w5⟩ := DataW.trod_int Tryz.underlying2 f5
  simp at e0 e1 e2 e3 e4 e5
  subst e0 e1 e2 e3 e4 e5
  exact ⟨⟨r, a1, a2, a3, a4, a5⟩, ⟨i64_wf w1, i64_wf w2, i64_wf w3, i64_wf w4, i64_wf w5⟩, rfl⟩
end Go.Proofs.YtglniapfnhedoaaGreatDoor
namespace Go.Proofs.YtglniapfnhedoaaGreatDoor
open Go.RowKit Go.ChangeShapes Go.WideShapes Go.ChangeAt Go.Deep
theorem secs_trod {H : Type} {enc : TypeId × Value → H} {W : World} {base : Nat} {sp : Nat → Bool} {held : Bool} {fuel : Nat} {v : Value} {x : DataW H × List MemPlace}
  (h : DataW.trod enc Tryz.prog W base sp held fuel 31 [v] = some x) : ∃ l, IsSecs W v l := by
 rcases open_slice Tryz.underlying31 h with ⟨hcs, _⟩ | ⟨a, ln, cp, m, n, D, Pl, hcs, _, hl, hm, hmm, _, hx⟩
 ·simp at hcs
  subst hcs
  exact ⟨[], .inl ⟨rfl, rfl⟩⟩
 ·simp at hcs
  subst hcs
  rw [show Tryz.prog.cellsOf 37 = 6 by kernel_rfl] at hx
  have hle : ln ≤ m := by rw [hmm]; split <;> omega
  obtain ⟨S, hS⟩ := choose_lt (α := Sec) (n := ln) (p := fun i s => s.I ∧ ∀ j, j < 6 → W.cell? ((a.add (i * 6)).add j) = s.cells[j]?) (fun i hi => by
   obtain ⟨cs', h1, h2⟩ := hx i (by omega)
   obtain ⟨s, hI, rfl⟩ := sec_open h2
   obtain ⟨_, _, h3⟩ := World.cells?_some h1
   exact ⟨s, hI, h3⟩)
  refine ⟨(List.range ln).map S, .inr ⟨a, cp, by simp, by simpa using hl, hm, fun i s hs => ?_⟩⟩
  have hi : i < ln := by
   have := (List.getElem?_eq_some_iff.1 hs).1
   simpa using this
  have e : s = S i := by
   rw [List.getElem?_map, List.getElem?_range hi] at hs
   simpa using hs.symm
  subst e
  obtain ⟨hI, hc⟩ := hS i hi
  refine ⟨hI, ?_⟩
  generalize a.add (i * 6) = q at *
  have g0 := hc 0 (by omega)
  have g1 := hc 1 (by omega)
  have g2 := hc 2 (by omega)
  have g3 := hc 3 (by omega)
  have g4 := hc 4 (by omega)
  have g5 := hc 5 (by omega)
  simp [Addr.add, Sec.cells] at g0 g1 g2 g3 g4 g5
  exact ⟨g0, g1, g2, g3, g4, g5⟩
end Go.Proofs.YtglniapfnhedoaaGreatDoor
