/-
 Contracts and what they rest on.
-/
import Derived.Test.YthlileddhgglnaaGreatDoorChecked
import Derived.Deep.QuietTactic
import Derived.BigQuiet
import Derived.Laws.StructEq
import Derived.Lib.Hide
import Derived.KernelRfl
import Derived.Lib.MinMax
import Derived.Laws.Strings2
import Derived.Laws.Slices
import Derived.Test.YthlileddhgglnaaGreatDoorY22
namespace Go.Proofs.YthlileddhgglnaaGreatDoor
open Go.RowKit
set_option linter.unusedVariables false
theorem spanInfoR : (Tryz.prog.info? 73).map (fun i => (i.zero, i.size, i.bytes)) = some (some (.agg #[.int .i64 0, .int .i64 0]), 2, 16) := by kernel_rfl
set_option maxRecDepth 100000 in
set_option maxHeartbeats 4000000 in
theorem r11start_any (d : Dk) (b lo hi : Nat) (wv tv fv : Value) (w : World) (hH : Held (RBt d b wv tv fv) lo hi w) (hD : IsDk w wv tv fv d) (hr : rightD d = true) (hf9 : d.fs.length ≤ 1000000) :
  Calls Tryz.prog 20 #[.pointer (some ⟨b, 0, none⟩)] w fun e w' => ∃ g, e = .returned (.slice (some ⟨g, 0, none⟩) (startD d).length (startD d).length) ∧ w'.ownsRow w.heap.size 73 2 (.slice (some ⟨g, 0, none⟩) (startD d).length (startD d).length) (startD d).length (flatP (startD d)) ∧ B w w' := by
 obtain ⟨p8, p4, pW, pT⟩ := right_parts9 hr
 have hwb := wares_in pW
 have hNA := apart_names pW
 have hcn0 := count_pos d.ws hwb
 have hcn1 := count_le d.ws hwb
 have cC := r8count_any wv tv fv d w hD hwb (by omega)
 obtain ⟨i0, hi0, hz0, hz1, hz2⟩ := info_of spanInfoR
 have hmade := made_spans (countW d.ws).toNat
 have hSD := startD_len d
 obtain ⟨nn, hnn⟩ : ∃ nn, (countW d.ws).toNat = nn := ⟨_, rfl⟩
 have hcI : countW d.ws = (nn : Int) := by omega
 rw [hcI] at cC
 rw [hnn] at hmade hSD
 rw [hSD]
 have hRB : RBt d b wv tv fv w := hH.now
 obtain ⟨gw, cw, gt, ct, oB, _, _⟩ := hRB
 have hDw := hD
 have hHw := hH
 obtain ⟨ao, ac, bo, bc, co, cc, rfl, rfl, rfl⟩ := hD.forms
 have k0 := obj_cell oB 0
 have k1 := obj_cell oB 1
 have k2 := obj_cell oB 2
 have HB := Lib.hid (And.intro hHw hDw)
 have HR := Lib.hid hr
 obtain ⟨cn, hcn⟩ : ∃ cn, d.fs.length = cn := ⟨_, rfl⟩
 obtain ⟨an, han⟩ : ∃ an, d.ws.length = an := ⟨_, rfl⟩
 obtain ⟨bn, hbn⟩ : ∃ bn, d.ts.length = bn := ⟨_, rfl⟩
 rw [hcn] at k2
 rw [han] at k0
 rw [hbn] at k1
 simp only [hcn, han, hbn] at cC HB
 clear hH hD oB hHw hDw hr
 go_enter Tryz.func20, Tryz.ntmps20
 go_wp2_with fail
 refine cC.mono ?_
 rintro e w1 ⟨rfl, q1b⟩
 replace k0 := q1b.keep k0
 replace k1 := q1b.keep k1
 replace k2 := q1b.keep k2
 have hs1 := q1b.below.size
 clear cC
 have hb16 : i0.bytes * nn ≤ 281474976710656 := by rw [hz2]; omega
 have hbml : nn ≤ maxLen := by unfold maxLen; omega
 go_wp2_with (at_make; refine wpList_make_full _ rfl _ _ 61 rfl w1.heap.size 73 i0 _ 2 Tryz.underlying61 hi0 hz0 hz1 .i64 .i64 _ _ nn rfl rfl rfl rfl hb16 hbml (Nat.le_refl _) ?_; intro wm hrow hgrow; have hr2 : wm.ownsRow w1.heap.size 73 2 (.slice (some ⟨w1.heap.size, 0, none⟩) nn nn) nn (flatP (List.replicate nn (0, 0))) := (by rw [← hmade]; exact hrow); have qm := (B.refl w1).grownBy hgrow (fun _ h => by cases h); replace k0 := qm.keep k0; replace k1 := qm.keep k1; replace k2 := qm.keep k2; clear hgrow)
 generalize hgg : w1.heap.size = g at *
 obtain ⟨W, rfl⟩ : ∃ W : World, W = wm := ⟨_, rfl⟩
 have qW := q1b.trans qm
 have hS0 : W.ownsRow g 73 2 (.slice (some ⟨g, 0, none⟩) nn nn) nn (flatP (startF d.ws (List.replicate nn (0, 0)) (d.fs.take 0))) := hr2
 clear hrow hr2 q1b qm hmade
 go_loopw [4] (fun iv wr => ∃ j : Nat, j ≤ cn ∧ iv = .int .i64 j ∧ wr.ownsRow g 73 2 (.slice (some ⟨g, 0, none⟩) nn nn) nn (flatP (startF d.ws (List.replicate nn (0, 0)) (d.fs.take j))) ∧ B w wr ∧ G (fun k => k = g) W wr) (fun iv _ => cn + 1 - (intOf iv).toNat)
 case atStart => exact ⟨0, Nat.zero_le _, rfl, hS0, qW, G.refl _ _⟩
 case round =>
  obtain ⟨j, hj, rfl, hrow, qr, gr⟩ := hrel
  obtain ⟨wl, rfl⟩ : ∃ wl : World, wl = wr := ⟨_, rfl⟩
  have hHl := HB.out.1.keepB qr
  have hDl := HB.out.2.keepB qr
  have hRl : RBt d b _ _ _ wl := hHl.now
  obtain ⟨gw1, cw1, gt1, ct1, oB, _, _⟩ := hRl
  replace k0 : wl.cell? ⟨b, 0, none⟩ = some (.slice ao an ac) := obj_cell oB 0
  replace k1 : wl.cell? ⟨b, 1, none⟩ = some (.slice bo bn bc) := obj_cell oB 1
  replace k2 : wl.cell? ⟨b, 2, none⟩ = some (.slice co cn cc) := obj_cell oB 2
  clear oB
  by_cases hl : j < cn
  ·have hlB : decide ((j : Int) < (cn : Int)) = true := decide_eq_true (by omega)
   have hlN : decide (j < cn) = true := decide_eq_true hl
   have hlI : (j : Int) < (cn : Int) := by omega
   have hi0 : (0 : Int) ≤ (j : Int) := by omega
   have wk1 : IntKind.i64.wrap ((j : Int) + 1) = (j : Int) + 1 := by rw [IntKind.wrap_i64]; omega
   have hfi : d.fs[j]? = some d.fs[j] := List.getElem?_eq_getElem (by omega)
   obtain ⟨a, cap, ha, _, _, hfa⟩ := hDl.fs.at_ (i := j) (by omega)
   simp only [Value.slice.injEq] at ha
   obtain ⟨rfl, hx9, rfl⟩ := ha
   clear hx9
   obtain ⟨⟨k, hk, hk0, hk1⟩, hv0, hv1⟩ := right_fill HR.out hfi
   have htk := startF_take d.ws (List.replicate nn (0, 0)) hfi
   generalize d.fs[j] = f at *
   obtain ⟨N, R, C, V⟩ := f
   obtain ⟨f0, f1, f2, f3⟩ := hfa
   simp only at f0 f1 f2 f3 hk hv0 hv1
   have hkW : indexW d.ws 0 N R C = some k := by rw [← indexC_eq _ _ _ _ _ hNA]; exact hk
   obtain ⟨TOL, hTOL⟩ : ∃ TOL, tolW d.ws N = TOL := ⟨_, rfl⟩
   have hT01 : 0 ≤ TOL ∧ TOL ≤ 1000000 := by
    rw [← hTOL]
    unfold tolW
    split
    ·rename_i rc hrc
     obtain ⟨ix, hix⟩ := List.getElem?_of_mem (List.mem_of_find?_eq_some hrc)
     have hrcok := (apart_at pW hix).1
     unfold wareOk at hrcok
     simp only [Bool.and_eq_true, inB, decide_eq_true_eq] at hrcok
     exact hrcok.1.2
    ·omega
   obtain ⟨kN, hkN⟩ : ∃ kN : Nat, k = (kN : Int) := ⟨k.toNat, by omega⟩
   have hslot : slotF d.ws ⟨N, R, C, V⟩ = kN := by unfold slotF; rw [hk, hkN]; simp
   have hspan : spanF d.ws ⟨N, R, C, V⟩ = (max (V - TOL) 0, V + TOL) := by unfold spanF; rw [hTOL]
   rw [hslot, hspan] at htk
   obtain ⟨MX, hMX⟩ : ∃ MX, max (V - TOL) 0 = MX := ⟨_, rfl⟩
   obtain ⟨PL, hPL⟩ : ∃ PL, V + TOL = PL := ⟨_, rfl⟩
   obtain ⟨MI, hMI⟩ : ∃ MI, V - TOL = MI := ⟨_, rfl⟩
   rw [hMX, hPL] at htk
   rw [hMI] at hMX
   have n1 : IntKind.i64.wrap (V - TOL) = MI := by rw [IntKind.wrap_i64]; omega
   have n2 : IntKind.i64.wrap (V + TOL) = PL := by rw [IntKind.wrap_i64]; omega
   have cI0 := fun w' (q : B wl w') => (r8index_any _ _ _ d N R C w' (hDl.keepB q) hwb (by omega)).mono (fun _ _ h => And.intro h.1 h.2.b)
   have cT0 := fun w' (q : B wl w') => r11tol_any d b _ _ _ w' (hHl.keepB q).now (hDl.keepB q) N R C
   rw [hkW] at cI0
   rw [hTOL] at cT0
   simp only [Option.getD_some, hkN] at cI0
   generalize hasW d.ws N R C = HW at *
   have hkI : (kN : Int) < (nn : Int) := by omega
   have hkI0 : (0 : Int) ≤ (kN : Int) := by omega
   have HY := Lib.hid (And.intro hrow (And.intro qr (And.intro gr (And.intro htk hl))))
   clear hHl hDl hrow qr gr htk hl hk hkW hv0 hv1 hT01 hTOL hkN hslot hspan hPL hMI hfi hk0 hk1
   go_wp2_with fail
   have qx : B wl (wl.alloc (.cells #[.string N, .int .i64 R, .int .i64 C, .int .i64 V] 41)) := (B.refl _).alloc _ _
   have oF := obj_new wl (.cells #[.string N, .int .i64 R, .int .i64 C, .int .i64 V] 41)
   have cI1 := fun w' (q : B (wl.alloc (.cells #[.string N, .int .i64 R, .int .i64 C, .int .i64 V] 41)) w') => cI0 w' (qx.trans q)
   have cT1 := fun w' (q : B (wl.alloc (.cells #[.string N, .int .i64 R, .int .i64 C, .int .i64 V] 41)) w') => cT0 w' (qx.trans q)
   replace k0 := qx.keep k0
   replace k1 := qx.keep k1
   replace k2 := qx.keep k2
   clear cI0 cT0 f0 f1 f2 f3
   generalize (wl.alloc (.cells #[.string N, .int .i64 R, .int .i64 C, .int .i64 V] 41)) = w2 at *
   generalize hFb : wl.heap.size = Fb at *
   have cI := cI1
   have g0 := obj_cell oF 0
   have g1 := obj_cell oF 1
   have g2 := obj_cell oF 2
   have qd : B w2 w2.drew := (B.refl _).drew
   refine wp_region_noPanic ?_
   refine wp_region_seq (S := fun w' => w'.cell? ⟨b, 0, none⟩ = some (.slice ao an ac) ∧ w'.cell? ⟨b, 1, none⟩ = some (.slice bo bn bc) ∧ w'.cell? ⟨b, 2, none⟩ = some (.slice (some a) cn cc) ∧ w'.cell? ⟨Fb, 0, none⟩ = some (.string N) ∧ w'.cell? ⟨Fb, 1, none⟩ = some (.int .i64 R) ∧ w'.cell? ⟨Fb, 2, none⟩ = some (.int .i64 C) ∧ B w2 w') [(0, 0), (1, 0), (2, 0), (3, 0), (4, 0), (5, 0), (6, 2), (7, 0), (8, 0), (9, 0), (10, 0), (11, 0)] [0, 1, 2, 4, 0, 16, 40, 64, 128, 128, 511, 2047] [0, 1, 2, 4, 0, 16, 40, 64, 128, 128, 256, 512] (by kernel_rfl) (by kernel_rfl) (fun _ _ _ _ _ h => h) ?_ (fun hH => ?_)
   ·exact ⟨qd.keep k0, qd.keep k1, qd.keep k2, qd.keep g0, qd.keep g1, qd.keep g2, qd⟩
   refine wpSeq_take (d := 34) rfl rfl (by kernel_rfl) (fun w hS => by go_simp <;> with_reducible rfl) ?_
   dsimp only [sZ, sS]
   refine wpSeq_take (d := 35) rfl rfl (by kernel_rfl) (fun w hS => by go_simp <;> with_reducible rfl) ?_
   dsimp only [sZ, sS]
   refine wpSeq_take (d := 36) rfl rfl (by kernel_rfl) (fun w hS => by go_simp <;> with_reducible rfl) ?_
   dsimp only [sZ, sS]
   refine wpSeq_take (d := 37) rfl rfl (by kernel_rfl) (fun w hS => by go_simp <;> with_reducible rfl) ?_
   dsimp only [sZ, sS]
   refine wpSeq_take (d := 38) rfl rfl (by kernel_rfl) (fun w hS => by go_simp <;> with_reducible rfl) ?_
   dsimp only [sZ, sS]
   refine wpSeq_take (d := 39) rfl rfl (by kernel_rfl) (fun w hS => by go_simp <;> with_reducible rfl) ?_
   dsimp only [sZ, sS]
   refine wpSeq_call rfl (by kernel_rfl) (fun K hK => ?_)
   go_simp
   (with_reducible refine (cI _ hH.2.2.2.2.2.2).mono ?_)
   rintro e w' ⟨rfl, hq⟩
   refine hK.out _ _ ?_ (fun hH => ?_)
   ·exact ⟨hq.keep (hH.1), hq.keep (hH.2.1), hq.keep (hH.2.2.1), hq.keep (hH.2.2.2.1), hq.keep (hH.2.2.2.2.1), hq.keep (hH.2.2.2.2.2.1), (hH.2.2.2.2.2.2).trans hq⟩
   clear hK
   refine wpSeq_take (d := 33) rfl rfl (by kernel_rfl) (fun w hS => by go_simp <;> with_reducible rfl) ?_
   dsimp only [sZ, sS]
   refine wpSeq_take (d := 41) rfl rfl (by kernel_rfl) (fun w hS => by go_simp <;> with_reducible rfl) ?_
   dsimp only [sZ, sS]
   refine wpSeq_take (d := 42) rfl rfl (by kernel_rfl) (fun w hS => by go_simp <;> with_reducible rfl) ?_
   dsimp only [sZ, sS]
   refine wpSeq_take (d := 6) rfl rfl (by kernel_rfl) (fun w hS => by go_simp <;> with_reducible rfl) ?_
   dsimp only [sZ, sS]
   refine wpSeq_take (d := 7) rfl rfl (by kernel_rfl) (fun w hS => by go_simp <;> with_reducible rfl) ?_
   dsimp only [sZ, sS]
   refine wpSeq_done ?_
   refine NoPanic.normal ?_
   obtain ⟨w3, rfl⟩ : ∃ w3 : World, w3 = w' := ⟨_, rfl⟩
   have hB2 : B w2 w3 := hH.2.2.2.2.2.2
   replace g0 := hB2.keep g0
   replace g1 := hB2.keep g1
   replace g2 := hB2.keep g2
   have g3 := obj_cell (hB2.obj oF) 3
   have cT := cT1 _ hB2
   clear hH cI cI1 cT1 k0 k1 k2 qd
   go_wp2_with fail
   refine cT.mono ?_
   rintro e w4 ⟨rfl, q4⟩
   replace g0 := q4.keep g0
   replace g3 := q4.keep g3
   clear cT g1 g2
   obtain ⟨hrow, qr, gr, htk, hl⟩ := HY.out
   have hrow3 := own_keepBx hrow ((qx.trans hB2).trans q4)
   have y0 := hrow3.cellAt (kN * 2) (by omega)
   have y1 := hrow3.cellAt (kN * 2 + 1) (by omega)
   have z0 := hrow3.frozenAt (kN * 2)
   have z1 := hrow3.frozenAt (kN * 2 + 1)
   have hSl : (startF d.ws (List.replicate nn (0, 0)) (d.fs.take j)).length = nn := by rw [startF_len, List.length_replicate]
   obtain ⟨s0, hs0⟩ : ∃ s, (startF d.ws (List.replicate nn (0, 0)) (d.fs.take j))[kN]? = some s := ⟨_, List.getElem?_eq_getElem (by omega)⟩
   obtain ⟨p0, p1⟩ := flatP_get _ _ _ hs0
   rw [p0] at y0
   rw [p1] at y1
   obtain ⟨r1, e1⟩ := hrow3.stored (kN * 2) (.int .i64 MX)
   obtain ⟨r2, e2⟩ := r1.stored (kN * 2 + 1) (.int .i64 PL)
   rw [flatP_set _ _ _ _ (by omega), ← htk] at r2
   have q9 : B w ((w4.setCell ⟨g, kN * 2, none⟩ (.int .i64 MX)).setCell ⟨g, kN * 2 + 1, none⟩ (.int .i64 PL)) := (B.setCell (p := ⟨g, kN * 2 + 1, none⟩) (B.setCell (p := ⟨g, kN * 2, none⟩) (qr.trans ((qx.trans hB2).trans q4)) hs1 _) hs1 _)
   have g9 : G (fun k => k = g) W ((w4.setCell ⟨g, kN * 2, none⟩ (.int .i64 MX)).setCell ⟨g, kN * 2 + 1, none⟩ (.int .i64 PL)) := (G.setCell (S := fun k => k = g) (p := ⟨g, kN * 2 + 1, none⟩) (G.setCell (S := fun k => k = g) (p := ⟨g, kN * 2, none⟩) (gr.trans (((qx.trans hB2).trans q4).g _)) (.inl rfl) _) (.inl rfl) _)
   have HZ := Lib.hid (And.intro r2 (And.intro q9 (And.intro g9 hl)))
   clear r1 r2 e1 e2 q9 g9 hrow qr gr htk hl hrow3 hs0 p0 p1 HY hSl
   go_wp2
   go_roundw
   case rel => exact ⟨j + 1, by have := HZ.out.2.2.2; omega, by go_num, HZ.out.1, HZ.out.2.1, HZ.out.2.2.1⟩
   case measure => have := HZ.out.2.2.2; simp [intOf]; omega
  ·have hlB : decide ((j : Int) < (cn : Int)) = false := decide_eq_false (by omega)
   have hlN : decide (j < cn) = false := decide_eq_false hl
   obtain rfl : j = cn := by omega
   rw [List.take_of_length_le (by omega)] at hrow
   have HZ := Lib.hid (And.intro hrow qr)
   clear hrow qr gr hHl hDl
   go_wp2
   go_ret
   have hst : startF d.ws (List.replicate nn (0, 0)) d.fs = startD d := by unfold startD; rw [hnn]
   exact ⟨g, rfl, by rw [← hst]; exact own_low HZ.out.1 hs1, HZ.out.2⟩
end Go.Proofs.YthlileddhgglnaaGreatDoor
namespace Go.Proofs.YthlileddhgglnaaGreatDoor
open Go.RowKit
theorem secs_at {w : World} {v : Value} {l : List Sec} (h : IsSecs w v l) {i : Nat} {s : Sec} (hs : l[i]? = some s) : ∃ a, (∃ cap, v = .slice (some a) l.length cap) ∧ SecAt w (a.add (i * 6)) s := by
 rcases h with ⟨_, rfl⟩ | ⟨a, cap, h1, _, _, h4⟩
 ·simp at hs
 ·exact ⟨a, ⟨cap, h1⟩, (h4 i s hs).2⟩
theorem secs_len {w : World} {v : Value} {l : List Sec} (h : IsSecs w v l) : l.length ≤ 9223372036854775807 := by
 rcases h with ⟨_, rfl⟩ | ⟨a, cap, _, h2, h3, _⟩
 ·simp
 ·exact len_max h2 h3
theorem fls_at {w : World} {v : Value} {l : List Fl} (h : IsFls w v l) {i : Nat} {s : Fl} (hs : l[i]? = some s) : ∃ a, (∃ cap, v = .slice (some a) l.length cap) ∧ FlAt w (a.add (i * 4)) s := by
 rcases h with ⟨_, rfl⟩ | ⟨a, cap, h1, _, _, h4⟩
 ·simp at hs
 ·exact ⟨a, ⟨cap, h1⟩, h4 i s hs⟩
set_option maxHeartbeats 2000000 in
theorem sections_any (v1 v2 : Value) (l : List Sec) (w : World) (h1 : IsSecs w v1 l) (h2 : IsSecs w v2 l) : Calls Tryz.prog 67 #[v1, v2] w fun e w' => e = .returned (.bool true) ∧ Dr w w' := by
 obtain ⟨ao, ac, rfl⟩ := secs_form h1
 obtain ⟨bo, bc, rfl⟩ := secs_form h2
 have hlen := secs_len h1
 go_enter Tryz.func67, Tryz.ntmps67
 go_wp2
 go_loopw [5] (fun iv wr => ∃ i : Nat, i ≤ l.length ∧ iv = .int .i64 i ∧ Dr w wr) (fun iv _ => l.length + 1 - (intOf iv).toNat)
 case atStart => exact ⟨0, by omega, rfl, Dr.refl _⟩
 case round =>
  obtain ⟨i, hi, rfl, hD⟩ := hrel
  obtain ⟨wo, rfl⟩ : ∃ wo : World, wo = wr := ⟨_, rfl⟩
  by_cases hl : i < l.length
  ·have hlB : decide ((i : Int) < (l.length : Int)) = true := decide_eq_true (by omega)
   have hlI : (i : Int) < (l.length : Int) := by omega
   have hi0 : (0 : Int) ≤ (i : Int) := by omega
   have wk1 : IntKind.i64.wrap ((i : Int) + 1) = (i : Int) + 1 := by rw [IntKind.wrap_i64]; omega
   obtain ⟨F, hF⟩ : ∃ F, l[i]? = some F := ⟨_, List.getElem?_eq_getElem hl⟩
   obtain ⟨a, e1, g1⟩ := secs_at (h1.keepB hD.q.b) hF
   obtain ⟨b, e2, g2⟩ := secs_at (h2.keepB hD.q.b) hF
   obtain ⟨rfl, _⟩ : ao = some a ∧ True := by simpa using e1
   obtain ⟨rfl, _⟩ : bo = some b ∧ True := by simpa using e2
   obtain ⟨a0, a1, a2, a3, a4, a5⟩ := g1
   obtain ⟨b0, b1, b2, b3, b4, b5⟩ := g2
   obtain ⟨x0, x1, x2, x3, x4, x5⟩ := F
   simp only at a0 a1 a2 a3 a4 a5 b0 b1 b2 b3 b4 b5
   have HL := Lib.hid hl
   replace hD := Lib.hid hD
   clear h1 h2 hF e1 e2
   go_wp2_with fail
   go_quiet (fail)
   go_wp2
   go_roundw
   case rel => exact ⟨i + 1, by have := HL.out; omega, by go_num, hD.out.trans ⟨_, rfl⟩⟩
   case measure => have := HL.out; simp [intOf]; omega
  ·have hlB : decide ((i : Int) < (l.length : Int)) = false := decide_eq_false (by omega)
   replace hD := Lib.hid hD
   clear h1 h2
   go_wp2
   go_ret
   exact ⟨rfl, hD.out⟩
set_option maxHeartbeats 2000000 in
theorem fills_any (v1 v2 : Value) (l : List Fl) (w : World) (h1 : IsFls w v1 l) (h2 : IsFls w v2 l) : Calls Tryz.prog 66 #[v1, v2] w fun e w' => e = .returned (.bool true) ∧ Dr w w' := by
 obtain ⟨ao, ac, rfl⟩ := h1.form
 obtain ⟨bo, bc, rfl⟩ := h2.form
 have hlen := h1.len
 go_enter Tryz.func66, Tryz.ntmps66
 go_wp2
 go_loopw [5] (fun iv wr => ∃ i : Nat, i ≤ l.length ∧ iv = .int .i64 i ∧ Dr w wr) (fun iv _ => l.length + 1 - (intOf iv).toNat)
 case atStart => exact ⟨0, by omega, rfl, Dr.refl _⟩
 case round =>
  obtain ⟨i, hi, rfl, hD⟩ := hrel
  obtain ⟨wo, rfl⟩ : ∃ wo : World, wo = wr := ⟨_, rfl⟩
  by_cases hl : i < l.length
  ·have hlB : decide ((i : Int) < (l.length : Int)) = true := decide_eq_true (by omega)
   have hlI : (i : Int) < (l.length : Int) := by omega
   have hi0 : (0 : Int) ≤ (i : Int) := by omega
   have wk1 : IntKind.i64.wrap ((i : Int) + 1) = (i : Int) + 1 := by rw [IntKind.wrap_i64]; omega
   obtain ⟨F, hF⟩ : ∃ F, l[i]? = some F := ⟨_, List.getElem?_eq_getElem hl⟩
   obtain ⟨a, e1, g1⟩ := fls_at (h1.keepB hD.q.b) hF
   obtain ⟨b, e2, g2⟩ := fls_at (h2.keepB hD.q.b) hF
   obtain ⟨rfl, _⟩ : ao = some a ∧ True := by simpa using e1
   obtain ⟨rfl, _⟩ : bo = some b ∧ True := by simpa using e2
   obtain ⟨a0, a1, a2, a3⟩ := g1
   obtain ⟨b0, b1, b2, b3⟩ := g2
   obtain ⟨x0, x1, x2, x3⟩ := F
   simp only at a0 a1 a2 a3 b0 b1 b2 b3
   have HL := Lib.hid hl
   replace hD := Lib.hid hD
   clear h1 h2 hF e1 e2
   go_wp2_with fail
   go_quiet (fail)
   go_wp2
   go_roundw
   case rel => exact ⟨i + 1, by have := HL.out; omega, by go_num, hD.out.trans ⟨_, rfl⟩⟩
   case measure => have := HL.out; simp [intOf]; omega
  ·have hlB : decide ((i : Int) < (l.length : Int)) = false := decide_eq_false (by omega)
   replace hD := Lib.hid hD
   clear h1 h2
   go_wp2
   go_ret
   exact ⟨rfl, hD.out⟩
end Go.Proofs.YthlileddhgglnaaGreatDoor
namespace Go.Proofs.YthlileddhgglnaaGreatDoor
open Go.RowKit
theorem helptip_any (n : ByteArray) (x y z : Int) (v1 v2 : Value) (l : List Sec) (w : World) (h1 : IsSecs w v1 l) (h2 : IsSecs w v2 l) : Calls Tryz.prog 31 #[.agg #[.string n, .int .i64 x, .int .i64 y, .int .i64 z, v1], .agg #[.string n, .int .i64 x, .int .i64 y, .int .i64 z, v2]] w fun e w' => e = .returned (.bool true) ∧ Q w w' := by
 have q1 := (Q.refl w).alloc #[.string n, .int .i64 x, .int .i64 y, .int .i64 z, v1] 35
 have hQ := q1.alloc #[.string n, .int .i64 x, .int .i64 y, .int .i64 z, v2] 35
 have ht := sections_any v1 v2 l _ (h1.keepB hQ.b) (h2.keepB hQ.b)
 replace hQ := Lib.hid hQ
 clear q1 h1 h2
 go_enter Tryz.func31, Tryz.ntmps31
 go_wp2_with fail
 refine (Calls.mono ht ?_)
 rintro _ w1 ⟨rfl, hD⟩
 go_wp2
 go_ret
 exact ⟨rfl, hQ.out.dr hD⟩
set_option maxHeartbeats 2000000 in
theorem helpdeck_any (wv tv fv wv2 tv2 fv2 : Value) (d : Dk) (w : World) (h1 : IsDk w wv tv fv d) (h2 : IsDk w wv2 tv2 fv2 d) : Calls Tryz.prog 15 #[.agg #[wv, tv, fv], .agg #[wv2, tv2, fv2]] w fun e w' => e = .returned (.bool true) ∧ Q w w' := by
 obtain ⟨ao, ac, bo, bc, co, cc, rfl, rfl, rfl⟩ := h1.forms
 obtain ⟨ao2, ac2, bo2, bc2, co2, cc2, rfl, rfl, rfl⟩ := h2.forms
 have q1 := (Q.refl w).alloc #[.slice ao d.ws.length ac, .slice bo d.ts.length bc, .slice co d.fs.length cc] 26
 have hQ := q1.alloc #[.slice ao2 d.ws.length ac2, .slice bo2 d.ts.length bc2, .slice co2 d.fs.length cc2] 26
 obtain ⟨W, hW⟩ : ∃ W, (w.alloc (.cells #[.slice ao d.ws.length ac, .slice bo d.ts.length bc, .slice co d.fs.length cc] 26)).alloc (.cells #[.slice ao2 d.ws.length ac2, .slice bo2 d.ts.length bc2, .slice co2 d.fs.length cc2] 26) = W := ⟨_, rfl⟩
 have e1 : (w.alloc (.cells #[.slice ao d.ws.length ac, .slice bo d.ts.length bc, .slice co d.fs.length cc] 26)).heap.size = w.heap.size + 1 := by simp
 have k0 : W.cell? ⟨w.heap.size, 0, none⟩ = some (.slice ao d.ws.length ac) := by rw [← hW]; exact ((Q.refl _).alloc _ _).keep (by rw [World.cell?_alloc_new]; rfl)
 have k1 : W.cell? ⟨w.heap.size, 1, none⟩ = some (.slice bo d.ts.length bc) := by rw [← hW]; exact ((Q.refl _).alloc _ _).keep (by rw [World.cell?_alloc_new]; rfl)
 have k2 : W.cell? ⟨w.heap.size, 2, none⟩ = some (.slice co d.fs.length cc) := by rw [← hW]; exact ((Q.refl _).alloc _ _).keep (by rw [World.cell?_alloc_new]; rfl)
 have l0 : W.cell? ⟨w.heap.size + 1, 0, none⟩ = some (.slice ao2 d.ws.length ac2) := by rw [← hW, ← e1, World.cell?_alloc_new]; rfl
 have l1 : W.cell? ⟨w.heap.size + 1, 1, none⟩ = some (.slice bo2 d.ts.length bc2) := by rw [← hW, ← e1, World.cell?_alloc_new]; rfl
 have l2 : W.cell? ⟨w.heap.size + 1, 2, none⟩ = some (.slice co2 d.fs.length cc2) := by rw [← hW, ← e1, World.cell?_alloc_new]; rfl
 rw [hW] at hQ
 have hD1 := h1.keepB hQ.b
 have hD2 := h2.keepB hQ.b
 have hf := fills_any _ _ d.fs W hD1.fs hD2.fs
 have n0 : ((d.ws.length : Int) != (d.ws.length : Int)) = false := by simp
 have n1 : ((d.ts.length : Int) != (d.ts.length : Int)) = false := by simp
 have hlen0 := h1.ws.len
 have hlen1 := h1.ts.len
 replace hQ := Lib.hid hQ
 clear q1 h1 h2 e1
 go_enter Tryz.func15, Tryz.ntmps15
 go_wp2_with fail
 try rw [hW]
 refine (Calls.mono hf ?_)
 rintro _ W1 ⟨rfl, hd⟩
 have hq := hd.q
 replace k0 := hq.keep k0
 replace k1 := hq.keep k1
 replace k2 := hq.keep k2
 replace l0 := hq.keep l0
 replace l1 := hq.keep l1
 replace l2 := hq.keep l2
 replace hD1 := hD1.keepB hq.b
 replace hD2 := hD2.keepB hq.b
 replace hQ := Lib.hid (hQ.out.trans hq)
 clear hq hd hW
 go_wp2
 generalize w.heap.size = H at *
 go_loopw [5] (fun iv wr => ∃ i : Nat, i ≤ d.ws.length ∧ iv = .int .i64 i ∧ Q W1 wr) (fun iv _ => d.ws.length + 1 - (intOf iv).toNat)
 case atStart => exact ⟨0, Nat.zero_le _, rfl, Q.refl _⟩
 case round =>
  obtain ⟨i, hi, rfl, hQi⟩ := hrel
  obtain ⟨wo, rfl⟩ : ∃ wo : World, wo = wr := ⟨_, rfl⟩
  replace k0 := hQi.keep k0
  replace k1 := hQi.keep k1
  replace k2 := hQi.keep k2
  replace l0 := hQi.keep l0
  replace l1 := hQi.keep l1
  replace l2 := hQi.keep l2
  replace hD1 := hD1.keepB hQi.b
  replace hD2 := hD2.keepB hQi.b
  replace hQ := Lib.hid (hQ.out.trans hQi)
  by_cases hl : i < d.ws.length
  ·have hlB : decide ((i : Int) < (d.ws.length : Int)) = true := decide_eq_true (by omega)
   have hlI : (i : Int) < (d.ws.length : Int) := by omega
   have hi0 : (0 : Int) ≤ (i : Int) := by omega
   have wk1 : IntKind.i64.wrap ((i : Int) + 1) = (i : Int) + 1 := by rw [IntKind.wrap_i64]; omega
   obtain ⟨a, cap, e1, _, _, hr⟩ := hD1.ws.at_ hl
   obtain ⟨rfl, _, rfl⟩ : ao = some a ∧ True ∧ ac = cap := by simpa using e1
   obtain ⟨b, cap2, e2, _, _, hs⟩ := hD2.ws.at_ hl
   obtain ⟨rfl, _, rfl⟩ : ao2 = some b ∧ True ∧ ac2 = cap2 := by simpa using e2
   generalize d.ws[i] = F at *
   obtain ⟨N, X, Y, Z, SL⟩ := F
   obtain ⟨a1, a2, a3, a4, sv, a5, a6⟩ := hr
   obtain ⟨b1, b2, b3, b4, su, b5, b6⟩ := hs
   simp only at a1 a2 a3 a4 a5 a6 b1 b2 b3 b4 b5 b6
   obtain ⟨so, sc, rfl⟩ := secs_form a6
   obtain ⟨uo, uc, rfl⟩ := secs_form b6
   obtain ⟨sn, hsn⟩ : ∃ sn, SL.length = sn := ⟨_, rfl⟩
   rw [hsn] at a5 b5
   have HL := Lib.hid hl
   clear e1 e2 hi
   have s0 := World.block_lt_of_cell? _ _ k0
   have s1 := World.block_lt_of_cell? _ _ l0
   have s2 := World.block_lt_of_cell? _ _ a1
   have s3 := World.block_lt_of_cell? _ _ b1
   go_wp2_with fail
   go_region
   ·obtain ⟨W2, hW2⟩ : ∃ W2, ((wo.alloc (.cells #[.string N, .int .i64 X, .int .i64 Y, .int .i64 Z, .slice so sn sc] 33)).alloc (.cells #[.string N, .int .i64 X, .int .i64 Y, .int .i64 Z, .slice uo sn uc] 33)).drew = W2 := ⟨_, rfl⟩
    have z1 : (wo.alloc (.cells #[.string N, .int .i64 X, .int .i64 Y, .int .i64 Z, .slice so sn sc] 33)).heap.size = wo.heap.size + 1 := by simp
    have q2 : Q wo W2 := by rw [← hW2]; exact (((Q.refl wo).alloc #[.string N, .int .i64 X, .int .i64 Y, .int .i64 Z, .slice so sn sc] 33).alloc #[.string N, .int .i64 X, .int .i64 Y, .int .i64 Z, .slice uo sn uc] 33).drew
    have p0 : W2.cell? ⟨wo.heap.size, 0, none⟩ = some (.string N) := by rw [← hW2, World.cell?_drew]; exact ((Q.refl _).alloc _ _).keep (by rw [World.cell?_alloc_new]; rfl)
    have r0 : W2.cell? ⟨wo.heap.size + 1, 0, none⟩ = some (.string N) := by rw [← hW2, World.cell?_drew, ← z1, World.cell?_alloc_new]; rfl
    have p1 : W2.cell? ⟨wo.heap.size, 1, none⟩ = some (.int .i64 X) := by rw [← hW2, World.cell?_drew]; exact ((Q.refl _).alloc _ _).keep (by rw [World.cell?_alloc_new]; rfl)
    have r1 : W2.cell? ⟨wo.heap.size + 1, 1, none⟩ = some (.int .i64 X) := by rw [← hW2, World.cell?_drew, ← z1, World.cell?_alloc_new]; rfl
    have p2 : W2.cell? ⟨wo.heap.size, 2, none⟩ = some (.int .i64 Y) := by rw [← hW2, World.cell?_drew]; exact ((Q.refl _).alloc _ _).keep (by rw [World.cell?_alloc_new]; rfl)
    have r2 : W2.cell? ⟨wo.heap.size + 1, 2, none⟩ = some (.int .i64 Y) := by rw [← hW2, World.cell?_drew, ← z1, World.cell?_alloc_new]; rfl
    have p3 : W2.cell? ⟨wo.heap.size, 3, none⟩ = some (.int .i64 Z) := by rw [← hW2, World.cell?_drew]; exact ((Q.refl _).alloc _ _).keep (by rw [World.cell?_alloc_new]; rfl)
    have r3 : W2.cell? ⟨wo.heap.size + 1, 3, none⟩ = some (.int .i64 Z) := by rw [← hW2, World.cell?_drew, ← z1, World.cell?_alloc_new]; rfl
    have p4 : W2.cell? ⟨wo.heap.size, 4, none⟩ = some (.slice so sn sc) := by rw [← hW2, World.cell?_drew]; exact ((Q.refl _).alloc _ _).keep (by rw [World.cell?_alloc_new]; rfl)
    have r4 : W2.cell? ⟨wo.heap.size + 1, 4, none⟩ = some (.slice uo sn uc) := by rw [← hW2, World.cell?_drew, ← z1, World.cell?_alloc_new]; rfl
    have hs := sections_any _ _ SL W2 (a6.keepB q2.b) (b6.keepB q2.b)
    rw [hsn] at hs
    replace k0 := q2.keep k0
    replace k1 := q2.keep k1
    replace k2 := q2.keep k2
    replace l0 := q2.keep l0
    replace l1 := q2.keep l1
    replace l2 := q2.keep l2
    have HQ := Lib.hid (hQi.trans q2)
    clear a1 a2 a3 a4 a5 a6 b1 b2 b3 b4 b5 b6 s0 s1 s2 s3 hD1 hD2 hQi q2 z1 hl
    rw [hW2]
    clear hW2
    go_wp2_with fail
    refine (Calls.mono hs ?_)
    rintro _ W3 ⟨rfl, hd⟩
    replace HQ := Lib.hid (HQ.out.dr hd)
    go_wp2
    go_roundw
    case rel => exact ⟨i + 1, by have := HL.out; omega, by go_num, HQ.out⟩
    case measure => have := HL.out; simp [intOf]; omega
   ·obtain ⟨W2, hW2⟩ : ∃ W2, ((wo.alloc (.cells #[.string N, .int .i64 X, .int .i64 Y, .int .i64 Z, .slice uo sn uc] 33)).alloc (.cells #[.string N, .int .i64 X, .int .i64 Y, .int .i64 Z, .slice so sn sc] 33)).drew = W2 := ⟨_, rfl⟩
    have z1 : (wo.alloc (.cells #[.string N, .int .i64 X, .int .i64 Y, .int .i64 Z, .slice uo sn uc] 33)).heap.size = wo.heap.size + 1 := by simp
    have q2 : Q wo W2 := by rw [← hW2]; exact (((Q.refl wo).alloc #[.string N, .int .i64 X, .int .i64 Y, .int .i64 Z, .slice uo sn uc] 33).alloc #[.string N, .int .i64 X, .int .i64 Y, .int .i64 Z, .slice so sn sc] 33).drew
    have p0 : W2.cell? ⟨wo.heap.size, 0, none⟩ = some (.string N) := by rw [← hW2, World.cell?_drew]; exact ((Q.refl _).alloc _ _).keep (by rw [World.cell?_alloc_new]; rfl)
    have r0 : W2.cell? ⟨wo.heap.size + 1, 0, none⟩ = some (.string N) := by rw [← hW2, World.cell?_drew, ← z1, World.cell?_alloc_new]; rfl
    have p1 : W2.cell? ⟨wo.heap.size, 1, none⟩ = some (.int .i64 X) := by rw [← hW2, World.cell?_drew]; exact ((Q.refl _).alloc _ _).keep (by rw [World.cell?_alloc_new]; rfl)
    have r1 : W2.cell? ⟨wo.heap.size + 1, 1, none⟩ = some (.int .i64 X) := by rw [← hW2, World.cell?_drew, ← z1, World.cell?_alloc_new]; rfl
    have p2 : W2.cell? ⟨wo.heap.size, 2, none⟩ = some (.int .i64 Y) := by rw [← hW2, World.cell?_drew]; exact ((Q.refl _).alloc _ _).keep (by rw [World.cell?_alloc_new]; rfl)
    have r2 : W2.cell? ⟨wo.heap.size + 1, 2, none⟩ = some (.int .i64 Y) := by rw [← hW2, World.cell?_drew, ← z1, World.cell?_alloc_new]; rfl
    have p3 : W2.cell? ⟨wo.heap.size, 3, none⟩ = some (.int .i64 Z) := by rw [← hW2, World.cell?_drew]; exact ((Q.refl _).alloc _ _).keep (by rw [World.cell?_alloc_new]; rfl)
    have r3 : W2.cell? ⟨wo.heap.size + 1, 3, none⟩ = some (.int .i64 Z) := by rw [← hW2, World.cell?_drew, ← z1, World.cell?_alloc_new]; rfl
    have p4 : W2.cell? ⟨wo.heap.size, 4, none⟩ = some (.slice uo sn uc) := by rw [← hW2, World.cell?_drew]; exact ((Q.refl _).alloc _ _).keep (by rw [World.cell?_alloc_new]; rfl)
    have r4 : W2.cell? ⟨wo.heap.size + 1, 4, none⟩ = some (.slice so sn sc) := by rw [← hW2, World.cell?_drew, ← z1, World.cell?_alloc_new]; rfl
    have hs := sections_any _ _ SL W2 (a6.keepB q2.b) (b6.keepB q2.b)
    rw [hsn] at hs
    replace k0 := q2.keep k0
    replace k1 := q2.keep k1
    replace k2 := q2.keep k2
    replace l0 := q2.keep l0
    replace l1 := q2.keep l1
    replace l2 := q2.keep l2
    have HQ := Lib.hid (hQi.trans q2)
    clear a1 a2 a3 a4 a5 a6 b1 b2 b3 b4 b5 b6 s0 s1 s2 s3 hD1 hD2 hQi q2 z1 hl
    rw [hW2]
    clear hW2
    go_wp2_with fail
    refine (Calls.mono hs ?_)
    rintro _ W3 ⟨rfl, hd⟩
    replace HQ := Lib.hid (HQ.out.dr hd)
    go_wp2
    go_roundw
    case rel => exact ⟨i + 1, by have := HL.out; omega, by go_num, HQ.out⟩
    case measure => have := HL.out; simp [intOf]; omega
  ·have hlB : decide ((i : Int) < (d.ws.length : Int)) = false := decide_eq_false (by omega)
   clear hi hlen0 n0 n1 hQi hf
   go_wp2
   go_loopw [8] (fun iv wr => ∃ i : Nat, i ≤ d.ts.length ∧ iv = .int .i64 i ∧ Q wo wr) (fun iv _ => d.ts.length + 1 - (intOf iv).toNat)
   case atStart => exact ⟨0, Nat.zero_le _, rfl, Q.refl _⟩
   case round =>
    clear hlB hl
    obtain ⟨i, hi, rfl, hQi⟩ := hrel
    obtain ⟨wt, rfl⟩ : ∃ wt : World, wt = wr := ⟨_, rfl⟩
    replace k0 := hQi.keep k0
    replace k1 := hQi.keep k1
    replace k2 := hQi.keep k2
    replace l0 := hQi.keep l0
    replace l1 := hQi.keep l1
    replace l2 := hQi.keep l2
    replace hD1 := hD1.keepB hQi.b
    replace hD2 := hD2.keepB hQi.b
    replace hQ := Lib.hid (hQ.out.trans hQi)
    by_cases hl : i < d.ts.length
    ·have hlB : decide ((i : Int) < (d.ts.length : Int)) = true := decide_eq_true (by omega)
     have hlI : (i : Int) < (d.ts.length : Int) := by omega
     have hi0 : (0 : Int) ≤ (i : Int) := by omega
     have wk1 : IntKind.i64.wrap ((i : Int) + 1) = (i : Int) + 1 := by rw [IntKind.wrap_i64]; omega
     obtain ⟨a, cap, e1, _, _, hr⟩ := hD1.ts.at_ hl
     obtain ⟨rfl, _, rfl⟩ : bo = some a ∧ True ∧ bc = cap := by simpa using e1
     obtain ⟨b, cap2, e2, _, _, hs⟩ := hD2.ts.at_ hl
     obtain ⟨rfl, _, rfl⟩ : bo2 = some b ∧ True ∧ bc2 = cap2 := by simpa using e2
     generalize d.ts[i] = F at *
     obtain ⟨N, X, Y, Z, SL⟩ := F
     obtain ⟨a1, a2, a3, a4, sv, a5, a6⟩ := hr
     obtain ⟨b1, b2, b3, b4, su, b5, b6⟩ := hs
     simp only at a1 a2 a3 a4 a5 a6 b1 b2 b3 b4 b5 b6
     have ht := helptip_any N X Y Z sv su SL wt.drew (a6.keepB ((Q.refl wt).drew).b) (b6.keepB ((Q.refl wt).drew).b)
     have HL := Lib.hid hl
     have HQ := Lib.hid hQi
     clear e1 e2 hi hl hD1 hD2 hQi
     go_wp2_with fail
     go_region_with (go_at_call 31; refine (Calls.mono ht ?_); rintro _ w3 ⟨rfl, hd⟩)
     all_goals
      have HQ2 := Lib.hid ((HQ.out.drew).trans hd)
      go_wp2
      go_roundw
      case rel => exact ⟨i + 1, by have := HL.out; omega, by go_num, HQ2.out⟩
      case measure => have := HL.out; simp [intOf]; omega
    ·have hlB : decide ((i : Int) < (d.ts.length : Int)) = false := decide_eq_false (by omega)
     clear hi hlen1 hD1 hD2 hQi
     go_wp2
     go_ret
     exact ⟨rfl, hQ.out⟩
end Go.Proofs.YthlileddhgglnaaGreatDoor
namespace Go.Proofs.YthlileddhgglnaaGreatDoor
open Go.RowKit
theorem clow_any (p : Value) (L : List (Int × Int)) (i : Int) (w : World) (hb : TBnd L) (ht : CTab w p L) :
  Calls Tryz.prog 27 #[p, .int .i64 i] w fun e w' => e = .returned (.int .i64 (lowT L (nearI L.length i))) ∧ B w w' := by
 obtain ⟨b, aL, cL, aH, cH, hn, rfl, h0, h1, h2, h3, h4⟩ := ht
 have c := below_any (lowT L) (lowT_zero L) aL L.length cL hn hb.n i w h3
 generalize lowT L (nearI L.length i) = X at *
 clear h0 h2 h3 h4 hb hn
 go_enter Tryz.func27, Tryz.ntmps27
 go_wp2_with fail
 refine c.mono ?_
 rintro e w1 ⟨rfl, g⟩
 go_wp2
 go_ret
 exact ⟨rfl, g⟩
end Go.Proofs.YthlileddhgglnaaGreatDoor
namespace Go.Proofs.YthlileddhgglnaaGreatDoor
open Go.RowKit
theorem r3slices_any (p : Value) (L : List (Int × Int)) (hb : L.length ≤ 600) (w : World) (ht : RTab w p L) :
  Calls Tryz.prog 26 #[p] w fun e w' => e = .returned (.int .i64 L.length) ∧ w = w' := by
 obtain ⟨b, aL, cL, aH, cH, rfl, h1, h2, h3, h4⟩ := ht
 clear h2 h3 h4
 obtain ⟨N, hN⟩ : ∃ N, L.length = N := ⟨_, rfl⟩
 rw [hN] at h1 hb ⊢
 have w2 : IntKind.i64.wrap (N : Int) = (N : Int) := wrapI (by omega) (by omega)
 go_enter Tryz.func26, Tryz.ntmps26
 go_wp2
 go_ret
 exact ⟨rfl, rfl⟩
theorem r3near_any (p : Value) (L : List (Int × Int)) (hb : L.length ≤ 600) (i : Int) (w : World) (ht : RTab w p L) :
  Calls Tryz.prog 78 #[p, .int .i64 i] w fun e w' => e = .returned (.int .i64 (nearI L.length i : Int)) ∧ w = w' := by
 have c := r3slices_any p L hb w ht
 have e1 := nearI_eq L.length i
 obtain ⟨b, aL, cL, aH, cH, rfl, _⟩ := ht
 obtain ⟨m, e2⟩ : ∃ m, max i 0 = m := ⟨_, rfl⟩
 rw [e2] at e1
 generalize nearI L.length i = n at *
 go_enter Tryz.func78, Tryz.ntmps78
 go_wp2_with fail
 refine c.mono ?_
 rintro e w1 ⟨rfl, rfl⟩
 go_wp2
 go_ret
 exact ⟨rfl, rfl⟩
end Go.Proofs.YthlileddhgglnaaGreatDoor
namespace Go.Proofs.YthlileddhgglnaaGreatDoor
open Go.RowKit
theorem r3low_any (p : Value) (L : List (Int × Int)) (hb : L.length ≤ 600) (i : Int) (w : World) (ht : RTab w p L) :
  Calls Tryz.prog 28 #[p, .int .i64 i] w fun e w' => e = .returned (.int .i64 (lowT L (nearI L.length i))) ∧ Dr w w' := by
 have htt := ht
 obtain ⟨b, aL, cL, aH, cH, rfl, h1, h2, h3, h4⟩ := ht
 have c := fun w ht => r3near_any (.pointer (some ⟨b, 0, none⟩)) L hb i w ht
 have hn := nearI_le L.length i
 have hc := h1
 have hx := h3 _ hn
 have hnI : (nearI L.length i : Int) < (L.length : Int) + 1 := by omega
 clear h1 h2 h3 h4
 generalize lowT L (nearI L.length i) = X at *
 generalize nearI L.length i = n at *
 obtain ⟨N, hN⟩ : ∃ N, L.length = N := ⟨_, rfl⟩
 rw [hN] at hc hn hnI
 go_enter Tryz.func28, Tryz.ntmps28
 go_wp2_with fail
 refine wp_region_noPanic ?_
 refine wp_region_seq (S := fun w' => w'.cell? ⟨b, 0, none⟩ = some (.slice (some aL) (N + 1) cL) ∧ w'.cell? (aL.add n) = some (.int .i64 X) ∧ RTab w' (.pointer (some ⟨b, 0, none⟩)) L ∧ Dr w w') [(0, 0), (1, 0), (2, 0), (3, 0), (4, 0), (5, 0), (6, 2), (7, 0), (8, 0), (9, 0)] [0, 1, 2, 4, 0, 0, 48, 72, 128, 511] [0, 1, 2, 4, 0, 0, 48, 72, 128, 256] (by kernel_rfl) (by kernel_rfl) (fun _ _ _ _ _ h => h) ?_ (fun hH => ?_)
 ·exact ⟨by simp [go_sem, hc], by simp [go_sem, hx], htt.keepB (B.refl w).drew, ⟨1, rfl⟩⟩
 refine wpSeq_take (d := 5) rfl rfl (by kernel_rfl) (fun w hS => by go_simp <;> with_reducible rfl) ?_
 dsimp only [sZ, sS]
 refine wpSeq_take (d := 6) rfl rfl (by kernel_rfl) (fun w hS => by go_simp <;> with_reducible rfl) ?_
 dsimp only [sZ, sS]
 refine wpSeq_take (d := 7) rfl rfl (by kernel_rfl) (fun w hS => by go_simp <;> with_reducible rfl) ?_
 dsimp only [sZ, sS]
 refine wpSeq_take (d := 8) rfl rfl (by kernel_rfl) (fun w hS => by go_simp <;> with_reducible rfl) ?_
 dsimp only [sZ, sS]
 refine wpSeq_take (d := 9) rfl rfl (by kernel_rfl) (fun w hS => by go_simp <;> with_reducible rfl) ?_
 dsimp only [sZ, sS]
 refine wpSeq_take (d := 10) rfl rfl (by kernel_rfl) (fun w hS => by go_simp <;> with_reducible rfl) ?_
 dsimp only [sZ, sS]
 refine wpSeq_call rfl (by kernel_rfl) (fun K hK => ?_)
 go_simp
 (with_reducible refine (c _ hH.2.2.1).mono ?_)
 rintro e w' ⟨rfl, rfl⟩
 refine hK.out _ _ hH fun hH => ?_
 clear hK
 refine wpSeq_take (d := 12) rfl rfl (by kernel_rfl) (fun w hS => by go_simp <;> with_reducible rfl) ?_
 dsimp only [sZ, sS]
 refine wpSeq_take (d := 13) rfl rfl (by kernel_rfl) (fun w hS => by go_simp <;> with_reducible rfl) ?_
 dsimp only [sZ, sS]
 refine wpSeq_take (d := 4) rfl rfl (by kernel_rfl) (fun w hS => by go_simp <;> with_reducible rfl) ?_
 dsimp only [sZ, sS]
 refine wpSeq_done ?_
 refine NoPanic.normal ?_
 obtain ⟨_, _, _, hd⟩ := hH
 go_wp2
 go_ret
 exact ⟨rfl, hd⟩
theorem r3tall_any (p : Value) (L : List (Int × Int)) (hb : L.length ≤ 600) (w : World) (ht : RTab w p L) :
  Calls Tryz.prog 33 #[p] w fun e w' => e = .returned (.int .i64 (L.length * 100)) ∧ w = w' := by
 have c := r3slices_any p L hb w ht
 obtain ⟨b, aL, cLL, aH, cHH, rfl, _⟩ := ht
 have w1 : IntKind.i64.wrap ((L.length : Int) * 100) = (L.length : Int) * 100 := wrapI (by omega) (by omega)
 have w2 : IntKind.i64.wrap (L.length : Int) = (L.length : Int) := wrapI (by omega) (by omega)
 go_enter Tryz.func33, Tryz.ntmps33
 go_wp2_with fail
 refine c.mono ?_
 rintro e w1 ⟨rfl, rfl⟩
 go_wp2
 go_ret
 exact ⟨rfl, rfl⟩
end Go.Proofs.YthlileddhgglnaaGreatDoor
