/-
 Contracts and what they rest on.
-/
import Derived.Lib.ConvBytes
import Derived.Lib.Strings
import Derived.Lib.UnsafeStr
import Derived.Test.YtglniapfnhedoaaGreatDoorY26
namespace Go.Proofs.YtglniapfnhedoaaGreatDoor
open Go.RowKit
set_option linter.unusedVariables false
theorem rec_text (k : List UInt8) {KB : ByteArray} (hk : KB = strB (k ++ [32])) {S0 : ByteArray} {T : List UInt8} (hs : S0 = strB T) {x y z : Nat} {N Dx Dy Dz SS s1 s2 s3 s4 s5 s6 s7 s8 s9 s10 : ByteArray} {SL : List Sec} (e1 : decS x = Dx) (e2 : decS y = Dy) (e3 : decS z = Dz) (e4 : strB (SL.flatMap fun s => lineT (secL s)) = SS)
  (j1 : S0 ++ KB = s1) (j2 : s1 ++ N = s2) (j3 : s2 ++ ({ data := #[32] } : ByteArray) = s3) (j4 : s3 ++ Dx = s4) (j5 : s4 ++ ({ data := #[32] } : ByteArray) = s5) (j6 : s5 ++ Dy = s6) (j7 : s6 ++ ({ data := #[32] } : ByteArray) = s7) (j8 : s7 ++ Dz = s8) (j9 : s8 ++ ({ data := #[10] } : ByteArray) = s9) (j10 : s9 ++ SS = s10) :
  s10 = strB (T ++ (lineT (k :: N.data.toList :: [decI (x : Int), decI (y : Int), decI (z : Int)]) ++ SL.flatMap fun s => lineT (secL s))) := by
 have eN : N = strB N.data.toList := by unfold strB; simp
 subst j1 j2 j3 j4 j5 j6 j7 j8 j9 j10 e1 e2 e3 e4 hs hk
 rw [decS_strB, decS_strB, decS_strB, show ({ data := #[32] } : ByteArray) = strB [32] from rfl, show ({ data := #[10] } : ByteArray) = strB [10] from rfl]
 conv => lhs; rw [eN]
 simp only [strB_app, lineT]
 congr 1
 simp [List.append_assoc]
theorem fill_text {S0 : ByteArray} {T : List UInt8} (hs : S0 = strB T) {N : ByteArray} {R C : Int} {v : Nat} {WT Dv s1 s2 s3 s4 s5 : ByteArray} (e1 : strB (wellT N R C) = WT) (e2 : decS v = Dv)
  (j1 : S0 ++ ({ data := #[102, 105, 108, 108, 32] } : ByteArray) = s1) (j2 : s1 ++ WT = s2) (j3 : s2 ++ ({ data := #[32] } : ByteArray) = s3) (j4 : s3 ++ Dv = s4) (j5 : s4 ++ ({ data := #[10] } : ByteArray) = s5) :
  s5 = strB (T ++ lineT (fillL ⟨N, R, C, (v : Int)⟩)) := by
 subst j1 j2 j3 j4 j5 e1 e2 hs
 rw [decS_strB, show ({ data := #[102, 105, 108, 108, 32] } : ByteArray) = strB (kFill ++ [32]) from rfl, show ({ data := #[32] } : ByteArray) = strB [32] from rfl, show ({ data := #[10] } : ByteArray) = strB [10] from rfl]
 simp only [strB_app, fillL, lineT]
 congr 1
 simp [List.append_assoc]
theorem wellT_len8 {n : ByteArray} {r c : Int} (hn : nameS n = true) (h0 : 0 ≤ r) (h8 : r < 8) (c0 : 0 ≤ c) (c12 : c < 12) : (wellT n r c).length ≤ 50 := by
 unfold wellT
 rw [if_pos ⟨hn, h0, h8, c0, c12⟩]
 obtain ⟨k, rfl⟩ := Int.eq_ofNat_of_zero_le c0
 have := decS_size (n := k + 1) (by omega)
 rw [decS_strB, strB_size, show (((k + 1 : Nat) : Int)) = (k : Int) + 1 by omega] at this
 have hz : n.data.toList.length ≤ 24 := by
  have e : n.data.toList.length = n.size := Array.length_toList
  rw [e]
  unfold nameS at hn
  have h16 := of_decide_eq_true (Bool.and_eq_true_iff.1 (Bool.and_eq_true_iff.1 (Bool.and_eq_true_iff.1 hn).1).1).2
  omega
 simp only [List.length_append, List.length_cons, List.length_nil]
 omega
set_option maxRecDepth 100000 in
set_option maxHeartbeats 4000000 in
theorem r8print_any (wv tv fv : Value) (d : Dk) (w : World) (h : IsDk w wv tv fv d) (hfs : d.fs.length < 1000) :
  Calls Tryz.prog 10 #[.agg #[wv, tv, fv]] w fun e w' => e = .returned (.string (strB (textD d))) ∧ B w w' := by
 obtain ⟨ao, ac, bo, bc, co, cc, rfl, rfl, rfl⟩ := h.forms
 have q0 : B w (w.alloc (.cells #[.slice ao d.ws.length ac, .slice bo d.ts.length bc, .slice co d.fs.length cc] 26)) := (B.refl w).alloc _ _
 have oD0 := obj_new w (.cells #[.slice ao d.ws.length ac, .slice bo d.ts.length bc, .slice co d.fs.length cc] 26)
 have cR := r8deckright_any _ _ _ d _ (h.keepB q0)
 go_enter Tryz.func10, Tryz.ntmps10
 go_wp2_with fail
 refine cR.mono ?_
 clear cR
 rintro _ W ⟨rfl, q2⟩
 have oD := q2.obj oD0
 have hWB := q0.trans q2
 replace h := h.keepB hWB
 generalize w.heap.size = H at *
 clear oD0 q0 q2
 obtain ⟨RD, hRD⟩ : ∃ RD, rightD d = RD := ⟨_, rfl⟩
 rw [hRD]
 cases RD
 ·have hE : Hid (strB (textD d) = ⟨#[]⟩) := Lib.hid (by unfold textD; rw [hRD]; rfl)
  clear hRD
  go_wp2
  go_ret
  exact ⟨by rw [hE.out]; rfl, hWB⟩
 obtain ⟨hw8, ht4, hNW, hNT, hNF⟩ := right_parts hRD
 have hE : Hid (strB (textD d) = strB ((d.ws.flatMap (recT kWare) ++ d.ts.flatMap (recT kTip)) ++ d.fs.flatMap fun f => lineT (fillL f))) := Lib.hid (by unfold textD; rw [hRD, if_pos rfl, deck_text])
 clear hRD
 have hB0 := B.refl W
 have hS0 : ({ data := #[] } : ByteArray) = strB [] := rfl
 go_wp2_with fail
 go_loopw [3, 4] (fun sv iv wr => ∃ (i : Nat) (S0 : ByteArray), i ≤ d.ws.length ∧ iv = .int .i64 i ∧ sv = .string S0 ∧ S0 = strB ((d.ws.take i).flatMap (recT kWare)) ∧ B W wr) (fun _ iv _ => d.ws.length + 1 - (intOf iv).toNat)
 case atStart => exact ⟨0, _, Nat.zero_le _, rfl, rfl, by first | rfl | (simpa using hS0), hB0⟩
 case round =>
  obtain ⟨i, S0, hi, rfl, rfl, hS, hB⟩ := hrel
  obtain ⟨wo, rfl⟩ : ∃ wo : World, wo = wr := ⟨_, rfl⟩
  have d0 : wo.cell? ⟨H, 0, none⟩ = some (.slice ao d.ws.length ac) := obj_cell (hB.obj oD) 0
  by_cases hlt : i < d.ws.length
  ·have hlB : decide ((i : Int) < (d.ws.length : Int)) = true := decide_eq_true (by omega)
   have hlN : decide (i < d.ws.length) = true := decide_eq_true hlt
   have hlI : (i : Int) < (d.ws.length : Int) := by omega
   have hi0 : (0 : Int) ≤ (i : Int) := by omega
   have wk1 : IntKind.i64.wrap ((i : Int) + 1) = (i : Int) + 1 := by rw [IntKind.wrap_i64]; omega
   obtain ⟨g, cap', e1, _, _, hr⟩ := h.ws.at_ hlt
   obtain ⟨rfl, _, rfl⟩ : ao = some g ∧ True ∧ ac = cap' := by simpa using e1
   obtain ⟨F, hF⟩ : ∃ F, d.ws[i]? = some F := ⟨_, List.getElem?_eq_getElem hlt⟩
   have hFe : d.ws[i] = F := by rw [List.getElem?_eq_getElem hlt] at hF; simpa using hF
   rw [hFe] at hr
   obtain ⟨g0, g1, g2, g3, sv, g4, g5⟩ := hr
   replace g0 := hB.keep g0
   replace g1 := hB.keep g1
   replace g2 := hB.keep g2
   replace g3 := hB.keep g3
   replace g4 := hB.keep g4
   replace g5 := g5.keepB hB
   obtain ⟨x, y, z, hRN⟩ := hNW F (List.mem_of_getElem? hF)
   have hsz : ((d.ws.take i).flatMap (recT kWare)).length ≤ 2000000 := by
    have h1 := flat_len9 (recT kWare) 1000 (d.ws.take i) (fun r hr => by obtain ⟨x, y, z, hR⟩ := hNW r (List.mem_of_mem_take hr); exact recT_len (by decide) hR)
    rw [List.length_take] at h1
    omega
   have hT1 : (d.ws.take (i + 1)).flatMap (recT kWare) = (d.ws.take i).flatMap (recT kWare) ++ recT kWare F := by rw [take_flat hF]; first | done | simp
   generalize (d.ws.take i).flatMap (recT kWare) = T at *
   have hz0 : S0.size ≤ 2000000 := by rw [hS, strB_size]; exact hsz
   obtain ⟨ex, ey, ez, bx, by0, bz, hn16, hls, hl4⟩ := hRN
   obtain ⟨N, X, Y, Z, SL⟩ := F
   simp only at g0 g1 g2 g3 g4 g5 ex ey ez hn16 hls hl4
   subst ex ey ez
   obtain ⟨so, sc, rfl⟩ := secs_form g5
   have hN16 : N.size ≤ 16 := by
    have e : N.data.toList.length = N.size := Array.length_toList
    omega
   have hSn := flat_len9 (fun s => lineT (secL s)) 130 SL fun s hs => psec_len (hls s hs)
   obtain ⟨SS, hSS⟩ : ∃ SS, strB (SL.flatMap fun s => lineT (secL s)) = SS := ⟨_, rfl⟩
   have hSz : SS.size ≤ 2000 := by rw [← hSS, strB_size]; omega
   have cx := fun w => r8dec_any x x (Nat.le_refl _) bx w
   have cy := fun w => r8dec_any y y (Nat.le_refl _) by0 w
   have cz := fun w => r8dec_any z z (Nat.le_refl _) bz w
   have v1 := decS_size bx
   have v2 := decS_size by0
   have v3 := decS_size bz
   obtain ⟨Dx, hDx⟩ : ∃ D, decS x = D := ⟨_, rfl⟩
   obtain ⟨Dy, hDy⟩ : ∃ D, decS y = D := ⟨_, rfl⟩
   obtain ⟨Dz, hDz⟩ : ∃ D, decS z = D := ⟨_, rfl⟩
   rw [hDx] at v1
   rw [hDy] at v2
   rw [hDz] at v3
   simp only [hDx] at cx
   simp only [hDy] at cy
   simp only [hDz] at cz
   obtain ⟨W1, hW1⟩ : ∃ W1, wo.alloc (.cells #[.string N, .int .i64 (x : Nat), .int .i64 (y : Nat), .int .i64 (z : Nat), .slice so SL.length sc] 33) = W1 := ⟨_, rfl⟩
   have oS := obj_new wo (.cells #[.string N, .int .i64 (x : Nat), .int .i64 (y : Nat), .int .i64 (z : Nat), .slice so SL.length sc] 33)
   have q1 := (B.refl wo).alloc #[.string N, .int .i64 (x : Nat), .int .i64 (y : Nat), .int .i64 (z : Nat), .slice so SL.length sc] 33
   rw [hW1] at oS q1
   have cS : ∀ w', B W1 w' → Calls Tryz.prog 40 #[.slice so SL.length sc] w' fun e w'' => e = .returned (.string SS) ∧ Q w' w'' := fun w' q => by
    rw [← hSS]
    exact r8secs_any _ SL w' ((g5.keepB q1).keepB q) hls (by omega)
   obtain ⟨G, hG⟩ : ∃ G, wo.heap.size = G := ⟨_, rfl⟩
   rw [hG] at oS
   have HG := Lib.hid hG
   have hrT : recT kWare ⟨N, (x : Int), (y : Int), (z : Int), SL⟩ = lineT (kWare :: N.data.toList :: [decI (x : Int), decI (y : Int), decI (z : Int)]) ++ SL.flatMap fun s => lineT (secL s) := rfl
   rw [hrT] at hT1
   obtain ⟨s1, j1⟩ : ∃ x, S0 ++ ({ data := #[119, 97, 114, 101, 32] } : ByteArray) = x := ⟨_, rfl⟩
   have n1 : ¬ 9223372036854775807 < S0.size + 5 := by omega
   have m1 : ¬ 9223372036854775807 < S0.size + ({ data := #[119, 97, 114, 101, 32] } : ByteArray).size := n1
   have z1 : s1.size ≤ 2000000 + 5 := by rw [← j1, ByteArray.size_append]; show S0.size + 5 ≤ _; omega
   obtain ⟨s2, j2⟩ : ∃ x, s1 ++ N = x := ⟨_, rfl⟩
   have n2 : ¬ 9223372036854775807 < s1.size + N.size := by omega
   have z2 : s2.size ≤ 2000000 + 21 := by rw [← j2, ByteArray.size_append]; omega
   obtain ⟨s3, j3⟩ : ∃ x, s2 ++ ({ data := #[32] } : ByteArray) = x := ⟨_, rfl⟩
   have n3 : ¬ 9223372036854775807 < s2.size + 1 := by omega
   have m3 : ¬ 9223372036854775807 < s2.size + ({ data := #[32] } : ByteArray).size := n3
   have z3 : s3.size ≤ 2000000 + 22 := by rw [← j3, ByteArray.size_append]; show s2.size + 1 ≤ _; omega
   obtain ⟨s4, j4⟩ : ∃ x, s3 ++ Dx = x := ⟨_, rfl⟩
   have n4 : ¬ 9223372036854775807 < s3.size + Dx.size := by omega
   have z4 : s4.size ≤ 2000000 + 42 := by rw [← j4, ByteArray.size_append]; omega
   obtain ⟨s5, j5⟩ : ∃ x, s4 ++ ({ data := #[32] } : ByteArray) = x := ⟨_, rfl⟩
   have n5 : ¬ 9223372036854775807 < s4.size + 1 := by omega
   have m5 : ¬ 9223372036854775807 < s4.size + ({ data := #[32] } : ByteArray).size := n5
   have z5 : s5.size ≤ 2000000 + 43 := by rw [← j5, ByteArray.size_append]; show s4.size + 1 ≤ _; omega
   obtain ⟨s6, j6⟩ : ∃ x, s5 ++ Dy = x := ⟨_, rfl⟩
   have n6 : ¬ 9223372036854775807 < s5.size + Dy.size := by omega
   have z6 : s6.size ≤ 2000000 + 63 := by rw [← j6, ByteArray.size_append]; omega
   obtain ⟨s7, j7⟩ : ∃ x, s6 ++ ({ data := #[32] } : ByteArray) = x := ⟨_, rfl⟩
   have n7 : ¬ 9223372036854775807 < s6.size + 1 := by omega
   have m7 : ¬ 9223372036854775807 < s6.size + ({ data := #[32] } : ByteArray).size := n7
   have z7 : s7.size ≤ 2000000 + 64 := by rw [← j7, ByteArray.size_append]; show s6.size + 1 ≤ _; omega
   obtain ⟨s8, j8⟩ : ∃ x, s7 ++ Dz = x := ⟨_, rfl⟩
   have n8 : ¬ 9223372036854775807 < s7.size + Dz.size := by omega
   have z8 : s8.size ≤ 2000000 + 84 := by rw [← j8, ByteArray.size_append]; omega
   obtain ⟨s9, j9⟩ : ∃ x, s8 ++ ({ data := #[10] } : ByteArray) = x := ⟨_, rfl⟩
   have n9 : ¬ 9223372036854775807 < s8.size + 1 := by omega
   have m9 : ¬ 9223372036854775807 < s8.size + ({ data := #[10] } : ByteArray).size := n9
   have z9 : s9.size ≤ 2000000 + 85 := by rw [← j9, ByteArray.size_append]; show s8.size + 1 ≤ _; omega
   obtain ⟨s10, j10⟩ : ∃ x, s9 ++ SS = x := ⟨_, rfl⟩
   have n10 : ¬ 9223372036854775807 < s9.size + SS.size := by omega
   have z10 : s10.size ≤ 2000000 + 2085 := by rw [← j10, ByteArray.size_append]; omega
   have HE : Hid (s10 = strB ((d.ws.take (i + 1)).flatMap (recT kWare))) := Lib.hid (by rw [hT1]; exact rec_text kWare rfl hS hDx hDy hDz hSS j1 j2 j3 j4 j5 j6 j7 j8 j9 j10)
   have HB := Lib.hid (And.intro (hB.trans q1) hlt)
   clear hS hT1 hrT hSS hDx hDy hDz hsz hSn hF hFe e1 hls hn16 hG q1 hB g5 hlt
   go_wp2_with fail
   try rw [hW1]
   try rw [HG.out]
   clear hW1 g0 g1 g2 g3 g4
   have k0 : W1.drew.cell? ⟨G, 0, none⟩ = some (.string N) := obj_cell (w := W1.drew) oS 0
   have k1 : W1.drew.cell? ⟨G, 1, none⟩ = some (.int .i64 (x : Nat)) := obj_cell (w := W1.drew) oS 1
   have k2 : W1.drew.cell? ⟨G, 2, none⟩ = some (.int .i64 (y : Nat)) := obj_cell (w := W1.drew) oS 2
   have k3 : W1.drew.cell? ⟨G, 3, none⟩ = some (.int .i64 (z : Nat)) := obj_cell (w := W1.drew) oS 3
   have k4 : W1.drew.cell? ⟨G, 4, none⟩ = some (.slice so SL.length sc) := obj_cell (w := W1.drew) oS 4
   refine wp_region_noPanic ?_
   refine wp_region_seq (S := fun w' => w'.cell? ⟨G, 0, none⟩ = some (.string N) ∧ w'.cell? ⟨G, 1, none⟩ = some (.int .i64 (x : Nat)) ∧ w'.cell? ⟨G, 2, none⟩ = some (.int .i64 (y : Nat)) ∧ w'.cell? ⟨G, 3, none⟩ = some (.int .i64 (z : Nat)) ∧ w'.cell? ⟨G, 4, none⟩ = some (.slice so SL.length sc) ∧ B W1 w') [(0, 0), (1, 0), (2, 0), (3, 0), (4, 0), (5, 0), (6, 0), (7, 0), (11, 0), (12, 0), (16, 0), (17, 0), (21, 0), (22, 0), (8, 2), (9, 0), (10, 0), (13, 2), (14, 0), (15, 0), (18, 2), (19, 0), (20, 0), (23, 2), (24, 0), (25, 0)] [0, 1, 0, 4, 10, 16, 0, 64, 128, 288, 512, 0, 2048, 4352, 9216, 16384, 0, 65536, 139264, 294912, 524288, 0, 2097152, 4456448, 9437184, 33554431] [0, 1, 0, 4, 10, 16, 0, 64, 128, 288, 512, 0, 2048, 4096, 9216, 16384, 0, 65536, 131072, 294912, 524288, 0, 2097152, 4194304, 9437184, 16777217] (by kernel_rfl) (by kernel_rfl) (fun _ _ _ _ _ h => h) ?_ (fun hH => ?_)
   ·exact ⟨k0, k1, k2, k3, k4, (B.refl W1).drew⟩
   refine wpSeq_take (d := 24) rfl rfl (by kernel_rfl) (fun w hS => by go_simp <;> with_reducible rfl) ?_
   dsimp only [sZ, sS]
   refine wpSeq_take (d := 25) rfl rfl (by kernel_rfl) (fun w hS => by go_simp <;> with_reducible rfl) ?_
   dsimp only [sZ, sS]
   refine wpSeq_take (d := 26) rfl rfl (by kernel_rfl) (fun w hS => by go_simp <;> with_reducible rfl) ?_
   dsimp only [sZ, sS]
   refine wpSeq_take (d := 27) rfl rfl (by kernel_rfl) (fun w hS => by go_simp <;> with_reducible rfl) ?_
   dsimp only [sZ, sS]
   refine wpSeq_take (d := 28) rfl rfl (by kernel_rfl) (fun w hS => by go_simp <;> with_reducible rfl) ?_
   dsimp only [sZ, sS]
   refine wpSeq_take (d := 29) rfl rfl (by kernel_rfl) (fun w hS => by go_simp <;> with_reducible rfl) ?_
   dsimp only [sZ, sS]
   refine wpSeq_take (d := 30) rfl rfl (by kernel_rfl) (fun w hS => by go_simp <;> with_reducible rfl) ?_
   dsimp only [sZ, sS]
   refine wpSeq_take (d := 31) rfl rfl (by kernel_rfl) (fun w hS => by go_simp <;> with_reducible rfl) ?_
   dsimp only [sZ, sS]
   refine wpSeq_take (d := 35) rfl rfl (by kernel_rfl) (fun w hS => by go_simp <;> with_reducible rfl) ?_
   dsimp only [sZ, sS]
   refine wpSeq_take (d := 36) rfl rfl (by kernel_rfl) (fun w hS => by go_simp <;> with_reducible rfl) ?_
   dsimp only [sZ, sS]
   refine wpSeq_take (d := 40) rfl rfl (by kernel_rfl) (fun w hS => by go_simp <;> with_reducible rfl) ?_
   dsimp only [sZ, sS]
   refine wpSeq_take (d := 41) rfl rfl (by kernel_rfl) (fun w hS => by go_simp <;> with_reducible rfl) ?_
   dsimp only [sZ, sS]
   refine wpSeq_take (d := 45) rfl rfl (by kernel_rfl) (fun w hS => by go_simp <;> with_reducible rfl) ?_
   dsimp only [sZ, sS]
   refine wpSeq_take (d := 46) rfl rfl (by kernel_rfl) (fun w hS => by go_simp <;> with_reducible rfl) ?_
   dsimp only [sZ, sS]
   refine wpSeq_call rfl (by kernel_rfl) (fun K hK => ?_)
   go_simp
   (with_reducible refine (cx _).mono ?_)
   rintro e w' ⟨rfl, rfl⟩
   refine hK.out _ _ hH fun hH => ?_
   clear hK
   refine wpSeq_take (d := 33) rfl rfl (by kernel_rfl) (fun w hS => by go_simp <;> with_reducible rfl) ?_
   dsimp only [sZ, sS]
   refine wpSeq_take (d := 34) rfl rfl (by kernel_rfl) (fun w hS => by go_simp <;> with_reducible rfl) ?_
   dsimp only [sZ, sS]
   refine wpSeq_call rfl (by kernel_rfl) (fun K hK => ?_)
   go_simp
   (with_reducible refine (cy _).mono ?_)
   rintro e w' ⟨rfl, rfl⟩
   refine hK.out _ _ hH fun hH => ?_
   clear hK
   refine wpSeq_take (d := 38) rfl rfl (by kernel_rfl) (fun w hS => by go_simp <;> with_reducible rfl) ?_
   dsimp only [sZ, sS]
   refine wpSeq_take (d := 39) rfl rfl (by kernel_rfl) (fun w hS => by go_simp <;> with_reducible rfl) ?_
   dsimp only [sZ, sS]
   refine wpSeq_call rfl (by kernel_rfl) (fun K hK => ?_)
   go_simp
   (with_reducible refine (cz _).mono ?_)
   rintro e w' ⟨rfl, rfl⟩
   refine hK.out _ _ hH fun hH => ?_
   clear hK
   refine wpSeq_take (d := 43) rfl rfl (by kernel_rfl) (fun w hS => by go_simp <;> with_reducible rfl) ?_
   dsimp only [sZ, sS]
   refine wpSeq_take (d := 44) rfl rfl (by kernel_rfl) (fun w hS => by go_simp <;> with_reducible rfl) ?_
   dsimp only [sZ, sS]
   refine wpSeq_call rfl (by kernel_rfl) (fun K hK => ?_)
   go_simp
   (with_reducible refine (cS _ hH.2.2.2.2.2).mono ?_)
   rintro e w' ⟨rfl, hq⟩
   refine hK.out _ _ ?_ (fun hH => ?_)
   ·exact ⟨hq.keep hH.1, hq.keep hH.2.1, hq.keep hH.2.2.1, hq.keep hH.2.2.2.1, hq.keep hH.2.2.2.2.1, hH.2.2.2.2.2.trans hq.b⟩
   clear hK
   refine wpSeq_take (d := 48) rfl rfl (by kernel_rfl) (fun w hS => by go_simp <;> with_reducible rfl) ?_
   dsimp only [sZ, sS]
   refine wpSeq_take (d := 3) rfl rfl (by kernel_rfl) (fun w hS => by go_simp <;> with_reducible rfl) ?_
   dsimp only [sZ, sS]
   refine wpSeq_done ?_
   refine NoPanic.normal ?_
   have HQ := Lib.hid (HB.out.1.trans hH.2.2.2.2.2)
   clear hH cx cy cz cS k0 k1 k2 k3 k4 oS
   go_wp2
   go_roundw
   case rel => exact ⟨i + 1, s10, by have := HB.out.2; omega, by go_num, rfl, HE.out, HQ.out⟩
   case measure => have := HB.out.2; simp [intOf]; omega
  ·have hlB : decide ((i : Int) < (d.ws.length : Int)) = false := decide_eq_false (by omega)
   have hlN : decide (i < d.ws.length) = false := decide_eq_false hlt
   obtain rfl : i = d.ws.length := by omega
   rw [List.take_length] at hS
   clear hlt hi
   have hS0 := hS
   have hB0 := hB
   clear hS hB
   go_wp2_with fail
   go_loopw [3, 6] (fun sv iv wr => ∃ (i : Nat) (S0 : ByteArray), i ≤ d.ts.length ∧ iv = .int .i64 i ∧ sv = .string S0 ∧ S0 = strB (d.ws.flatMap (recT kWare) ++ (d.ts.take i).flatMap (recT kTip)) ∧ B W wr) (fun _ iv _ => d.ts.length + 1 - (intOf iv).toNat)
   case atStart => exact ⟨0, _, Nat.zero_le _, rfl, rfl, by first | rfl | (simpa using hS0), hB0⟩
   case round =>
    obtain ⟨i, S0, hi, rfl, rfl, hS, hB⟩ := hrel
    obtain ⟨wo, rfl⟩ : ∃ wo : World, wo = wr := ⟨_, rfl⟩
    have d1 : wo.cell? ⟨H, 1, none⟩ = some (.slice bo d.ts.length bc) := obj_cell (hB.obj oD) 1
    by_cases hlt : i < d.ts.length
    ·have hlB : decide ((i : Int) < (d.ts.length : Int)) = true := decide_eq_true (by omega)
     have hlN : decide (i < d.ts.length) = true := decide_eq_true hlt
     have hlI : (i : Int) < (d.ts.length : Int) := by omega
     have hi0 : (0 : Int) ≤ (i : Int) := by omega
     have wk1 : IntKind.i64.wrap ((i : Int) + 1) = (i : Int) + 1 := by rw [IntKind.wrap_i64]; omega
     obtain ⟨g, cap', e1, _, _, hr⟩ := h.ts.at_ hlt
     obtain ⟨rfl, _, rfl⟩ : bo = some g ∧ True ∧ bc = cap' := by simpa using e1
     obtain ⟨F, hF⟩ : ∃ F, d.ts[i]? = some F := ⟨_, List.getElem?_eq_getElem hlt⟩
     have hFe : d.ts[i] = F := by rw [List.getElem?_eq_getElem hlt] at hF; simpa using hF
     rw [hFe] at hr
     obtain ⟨g0, g1, g2, g3, sv, g4, g5⟩ := hr
     replace g0 := hB.keep g0
     replace g1 := hB.keep g1
     replace g2 := hB.keep g2
     replace g3 := hB.keep g3
     replace g4 := hB.keep g4
     replace g5 := g5.keepB hB
     obtain ⟨x, y, z, hRN⟩ := hNT F (List.mem_of_getElem? hF)
     have hsz : (d.ws.flatMap (recT kWare) ++ (d.ts.take i).flatMap (recT kTip)).length ≤ 2000000 := by
      have h1 := flat_len9 (recT kTip) 1000 (d.ts.take i) (fun r hr => by obtain ⟨x, y, z, hR⟩ := hNT r (List.mem_of_mem_take hr); exact recT_len (by decide) hR)
      rw [List.length_take] at h1
      have h2 := flat_len9 (recT kWare) 1000 d.ws (fun r hr => by obtain ⟨x, y, z, hR⟩ := hNW r hr; exact recT_len (by decide) hR)
      rw [List.length_append]
      omega
     have hT1 : d.ws.flatMap (recT kWare) ++ (d.ts.take (i + 1)).flatMap (recT kTip) = d.ws.flatMap (recT kWare) ++ (d.ts.take i).flatMap (recT kTip) ++ recT kTip F := by rw [take_flat hF]; first | done | simp
     generalize d.ws.flatMap (recT kWare) ++ (d.ts.take i).flatMap (recT kTip) = T at *
     have hz0 : S0.size ≤ 2000000 := by rw [hS, strB_size]; exact hsz
     obtain ⟨ex, ey, ez, bx, by0, bz, hn16, hls, hl4⟩ := hRN
     obtain ⟨N, X, Y, Z, SL⟩ := F
     simp only at g0 g1 g2 g3 g4 g5 ex ey ez hn16 hls hl4
     subst ex ey ez
     obtain ⟨so, sc, rfl⟩ := secs_form g5
     have hN16 : N.size ≤ 16 := by
      have e : N.data.toList.length = N.size := Array.length_toList
      omega
     have hSn := flat_len9 (fun s => lineT (secL s)) 130 SL fun s hs => psec_len (hls s hs)
     obtain ⟨SS, hSS⟩ : ∃ SS, strB (SL.flatMap fun s => lineT (secL s)) = SS := ⟨_, rfl⟩
     have hSz : SS.size ≤ 2000 := by rw [← hSS, strB_size]; omega
     have cx := fun w => r8dec_any x x (Nat.le_refl _) bx w
     have cy := fun w => r8dec_any y y (Nat.le_refl _) by0 w
     have cz := fun w => r8dec_any z z (Nat.le_refl _) bz w
     have v1 := decS_size bx
     have v2 := decS_size by0
     have v3 := decS_size bz
     obtain ⟨Dx, hDx⟩ : ∃ D, decS x = D := ⟨_, rfl⟩
     obtain ⟨Dy, hDy⟩ : ∃ D, decS y = D := ⟨_, rfl⟩
     obtain ⟨Dz, hDz⟩ : ∃ D, decS z = D := ⟨_, rfl⟩
     rw [hDx] at v1
     rw [hDy] at v2
     rw [hDz] at v3
     simp only [hDx] at cx
     simp only [hDy] at cy
     simp only [hDz] at cz
     obtain ⟨W1, hW1⟩ : ∃ W1, wo.alloc (.cells #[.string N, .int .i64 (x : Nat), .int .i64 (y : Nat), .int .i64 (z : Nat), .slice so SL.length sc] 35) = W1 := ⟨_, rfl⟩
     have oS := obj_new wo (.cells #[.string N, .int .i64 (x : Nat), .int .i64 (y : Nat), .int .i64 (z : Nat), .slice so SL.length sc] 35)
     have q1 := (B.refl wo).alloc #[.string N, .int .i64 (x : Nat), .int .i64 (y : Nat), .int .i64 (z : Nat), .slice so SL.length sc] 35
     rw [hW1] at oS q1
     have cS : ∀ w', B W1 w' → Calls Tryz.prog 40 #[.slice so SL.length sc] w' fun e w'' => e = .returned (.string SS) ∧ Q w' w'' := fun w' q => by
      rw [← hSS]
      exact r8secs_any _ SL w' ((g5.keepB q1).keepB q) hls (by omega)
     obtain ⟨G, hG⟩ : ∃ G, wo.heap.size = G := ⟨_, rfl⟩
     rw [hG] at oS
     have HG := Lib.hid hG
     have hrT : recT kTip ⟨N, (x : Int), (y : Int), (z : Int), SL⟩ = lineT (kTip :: N.data.toList :: [decI (x : Int), decI (y : Int), decI (z : Int)]) ++ SL.flatMap fun s => lineT (secL s) := rfl
     rw [hrT] at hT1
     obtain ⟨s1, j1⟩ : ∃ x, S0 ++ ({ data := #[116, 105, 112, 32] } : ByteArray) = x := ⟨_, rfl⟩
     have n1 : ¬ 9223372036854775807 < S0.size + 4 := by omega
     have m1 : ¬ 9223372036854775807 < S0.size + ({ data := #[116, 105, 112, 32] } : ByteArray).size := n1
     have z1 : s1.size ≤ 2000000 + 4 := by rw [← j1, ByteArray.size_append]; show S0.size + 4 ≤ _; omega
     obtain ⟨s2, j2⟩ : ∃ x, s1 ++ N = x := ⟨_, rfl⟩
     have n2 : ¬ 9223372036854775807 < s1.size + N.size := by omega
     have z2 : s2.size ≤ 2000000 + 20 := by rw [← j2, ByteArray.size_append]; omega
     obtain ⟨s3, j3⟩ : ∃ x, s2 ++ ({ data := #[32] } : ByteArray) = x := ⟨_, rfl⟩
     have n3 : ¬ 9223372036854775807 < s2.size + 1 := by omega
     have m3 : ¬ 9223372036854775807 < s2.size + ({ data := #[32] } : ByteArray).size := n3
     have z3 : s3.size ≤ 2000000 + 21 := by rw [← j3, ByteArray.size_append]; show s2.size + 1 ≤ _; omega
     obtain ⟨s4, j4⟩ : ∃ x, s3 ++ Dx = x := ⟨_, rfl⟩
     have n4 : ¬ 9223372036854775807 < s3.size + Dx.size := by omega
     have z4 : s4.size ≤ 2000000 + 41 := by rw [← j4, ByteArray.size_append]; omega
     obtain ⟨s5, j5⟩ : ∃ x, s4 ++ ({ data := #[32] } : ByteArray) = x := ⟨_, rfl⟩
     have n5 : ¬ 9223372036854775807 < s4.size + 1 := by omega
     have m5 : ¬ 9223372036854775807 < s4.size + ({ data := #[32] } : ByteArray).size := n5
     have z5 : s5.size ≤ 2000000 + 42 := by rw [← j5, ByteArray.size_append]; show s4.size + 1 ≤ _; omega
     obtain ⟨s6, j6⟩ : ∃ x, s5 ++ Dy = x := ⟨_, rfl⟩
     have n6 : ¬ 9223372036854775807 < s5.size + Dy.size := by omega
     have z6 : s6.size ≤ 2000000 + 62 := by rw [← j6, ByteArray.size_append]; omega
     obtain ⟨s7, j7⟩ : ∃ x, s6 ++ ({ data := #[32] } : ByteArray) = x := ⟨_, rfl⟩
     have n7 : ¬ 9223372036854775807 < s6.size + 1 := by omega
     have m7 : ¬ 9223372036854775807 < s6.size + ({ data := #[32] } : ByteArray).size := n7
     have z7 : s7.size ≤ 2000000 + 63 := by rw [← j7, ByteArray.size_append]; show s6.size + 1 ≤ _; omega
     obtain ⟨s8, j8⟩ : ∃ x, s7 ++ Dz = x := ⟨_, rfl⟩
     have n8 : ¬ 9223372036854775807 < s7.size + Dz.size := by omega
     have z8 : s8.size ≤ 2000000 + 83 := by rw [← j8, ByteArray.size_append]; omega
     obtain ⟨s9, j9⟩ : ∃ x, s8 ++ ({ data := #[10] } : ByteArray) = x := ⟨_, rfl⟩
     have n9 : ¬ 9223372036854775807 < s8.size + 1 := by omega
     have m9 : ¬ 9223372036854775807 < s8.size + ({ data := #[10] } : ByteArray).size := n9
     have z9 : s9.size ≤ 2000000 + 84 := by rw [← j9, ByteArray.size_append]; show s8.size + 1 ≤ _; omega
     obtain ⟨s10, j10⟩ : ∃ x, s9 ++ SS = x := ⟨_, rfl⟩
     have n10 : ¬ 9223372036854775807 < s9.size + SS.size := by omega
     have z10 : s10.size ≤ 2000000 + 2084 := by rw [← j10, ByteArray.size_append]; omega
     have HE : Hid (s10 = strB (d.ws.flatMap (recT kWare) ++ (d.ts.take (i + 1)).flatMap (recT kTip))) := Lib.hid (by rw [hT1]; exact rec_text kTip rfl hS hDx hDy hDz hSS j1 j2 j3 j4 j5 j6 j7 j8 j9 j10)
     have HB := Lib.hid (And.intro (hB.trans q1) hlt)
     clear hS hT1 hrT hSS hDx hDy hDz hsz hSn hF hFe e1 hls hn16 hG q1 hB g5 hlt
     go_wp2_with fail
     try rw [hW1]
     try rw [HG.out]
     clear hW1 g0 g1 g2 g3 g4
     have k0 : W1.drew.cell? ⟨G, 0, none⟩ = some (.string N) := obj_cell (w := W1.drew) oS 0
     have k1 : W1.drew.cell? ⟨G, 1, none⟩ = some (.int .i64 (x : Nat)) := obj_cell (w := W1.drew) oS 1
     have k2 : W1.drew.cell? ⟨G, 2, none⟩ = some (.int .i64 (y : Nat)) := obj_cell (w := W1.drew) oS 2
     have k3 : W1.drew.cell? ⟨G, 3, none⟩ = some (.int .i64 (z : Nat)) := obj_cell (w := W1.drew) oS 3
     have k4 : W1.drew.cell? ⟨G, 4, none⟩ = some (.slice so SL.length sc) := obj_cell (w := W1.drew) oS 4
     refine wp_region_noPanic ?_
     refine wp_region_seq (S := fun w' => w'.cell? ⟨G, 0, none⟩ = some (.string N) ∧ w'.cell? ⟨G, 1, none⟩ = some (.int .i64 (x : Nat)) ∧ w'.cell? ⟨G, 2, none⟩ = some (.int .i64 (y : Nat)) ∧ w'.cell? ⟨G, 3, none⟩ = some (.int .i64 (z : Nat)) ∧ w'.cell? ⟨G, 4, none⟩ = some (.slice so SL.length sc) ∧ B W1 w') [(0, 0), (1, 0), (2, 0), (3, 0), (4, 0), (5, 0), (6, 0), (7, 0), (11, 0), (12, 0), (16, 0), (17, 0), (21, 0), (22, 0), (8, 2), (9, 0), (10, 0), (13, 2), (14, 0), (15, 0), (18, 2), (19, 0), (20, 0), (23, 2), (24, 0), (25, 0)] [0, 1, 0, 4, 10, 16, 0, 64, 128, 288, 512, 0, 2048, 4352, 9216, 16384, 0, 65536, 139264, 294912, 524288, 0, 2097152, 4456448, 9437184, 33554431] [0, 1, 0, 4, 10, 16, 0, 64, 128, 288, 512, 0, 2048, 4096, 9216, 16384, 0, 65536, 131072, 294912, 524288, 0, 2097152, 4194304, 9437184, 16777217] (by kernel_rfl) (by kernel_rfl) (fun _ _ _ _ _ h => h) ?_ (fun hH => ?_)
     ·exact ⟨k0, k1, k2, k3, k4, (B.refl W1).drew⟩
     refine wpSeq_take (d := 61) rfl rfl (by kernel_rfl) (fun w hS => by go_simp <;> with_reducible rfl) ?_
     dsimp only [sZ, sS]
     refine wpSeq_take (d := 62) rfl rfl (by kernel_rfl) (fun w hS => by go_simp <;> with_reducible rfl) ?_
     dsimp only [sZ, sS]
     refine wpSeq_take (d := 63) rfl rfl (by kernel_rfl) (fun w hS => by go_simp <;> with_reducible rfl) ?_
     dsimp only [sZ, sS]
     refine wpSeq_take (d := 64) rfl rfl (by kernel_rfl) (fun w hS => by go_simp <;> with_reducible rfl) ?_
     dsimp only [sZ, sS]
     refine wpSeq_take (d := 65) rfl rfl (by kernel_rfl) (fun w hS => by go_simp <;> with_reducible rfl) ?_
     dsimp only [sZ, sS]
     refine wpSeq_take (d := 66) rfl rfl (by kernel_rfl) (fun w hS => by go_simp <;> with_reducible rfl) ?_
     dsimp only [sZ, sS]
     refine wpSeq_take (d := 67) rfl rfl (by kernel_rfl) (fun w hS => by go_simp <;> with_reducible rfl) ?_
     dsimp only [sZ, sS]
     refine wpSeq_take (d := 68) rfl rfl (by kernel_rfl) (fun w hS => by go_simp <;> with_reducible rfl) ?_
     dsimp only [sZ, sS]
     refine wpSeq_take (d := 72) rfl rfl (by kernel_rfl) (fun w hS => by go_simp <;> with_reducible rfl) ?_
     dsimp only [sZ, sS]
     refine wpSeq_take (d := 73) rfl rfl (by kernel_rfl) (fun w hS => by go_simp <;> with_reducible rfl) ?_
     dsimp only [sZ, sS]
     refine wpSeq_take (d := 77) rfl rfl (by kernel_rfl) (fun w hS => by go_simp <;> with_reducible rfl) ?_
     dsimp only [sZ, sS]
     refine wpSeq_take (d := 78) rfl rfl (by kernel_rfl) (fun w hS => by go_simp <;> with_reducible rfl) ?_
     dsimp only [sZ, sS]
     refine wpSeq_take (d := 82) rfl rfl (by kernel_rfl) (fun w hS => by go_simp <;> with_reducible rfl) ?_
     dsimp only [sZ, sS]
     refine wpSeq_take (d := 83) rfl rfl (by kernel_rfl) (fun w hS => by go_simp <;> with_reducible rfl) ?_
     dsimp only [sZ, sS]
     refine wpSeq_call rfl (by kernel_rfl) (fun K hK => ?_)
     go_simp
     (with_reducible refine (cx _).mono ?_)
     rintro e w' ⟨rfl, rfl⟩
     refine hK.out _ _ hH fun hH => ?_
     clear hK
     refine wpSeq_take (d := 70) rfl rfl (by kernel_rfl) (fun w hS => by go_simp <;> with_reducible rfl) ?_
     dsimp only [sZ, sS]
     refine wpSeq_take (d := 71) rfl rfl (by kernel_rfl) (fun w hS => by go_simp <;> with_reducible rfl) ?_
     dsimp only [sZ, sS]
     refine wpSeq_call rfl (by kernel_rfl) (fun K hK => ?_)
     go_simp
     (with_reducible refine (cy _).mono ?_)
     rintro e w' ⟨rfl, rfl⟩
     refine hK.out _ _ hH fun hH => ?_
     clear hK
     refine wpSeq_take (d := 75) rfl rfl (by kernel_rfl) (fun w hS => by go_simp <;> with_reducible rfl) ?_
     dsimp only [sZ, sS]
     refine wpSeq_take (d := 76) rfl rfl (by kernel_rfl) (fun w hS => by go_simp <;> with_reducible rfl) ?_
     dsimp only [sZ, sS]
     refine wpSeq_call rfl (by kernel_rfl) (fun K hK => ?_)
     go_simp
     (with_reducible refine (cz _).mono ?_)
     rintro e w' ⟨rfl, rfl⟩
     refine hK.out _ _ hH fun hH => ?_
     clear hK
     refine wpSeq_take (d := 80) rfl rfl (by kernel_rfl) (fun w hS => by go_simp <;> with_reducible rfl) ?_
     dsimp only [sZ, sS]
     refine wpSeq_take (d := 81) rfl rfl (by kernel_rfl) (fun w hS => by go_simp <;> with_reducible rfl) ?_
     dsimp only [sZ, sS]
     refine wpSeq_call rfl (by kernel_rfl) (fun K hK => ?_)
     go_simp
     (with_reducible refine (cS _ hH.2.2.2.2.2).mono ?_)
     rintro e w' ⟨rfl, hq⟩
     refine hK.out _ _ ?_ (fun hH => ?_)
     ·exact ⟨hq.keep hH.1, hq.keep hH.2.1, hq.keep hH.2.2.1, hq.keep hH.2.2.2.1, hq.keep hH.2.2.2.2.1, hH.2.2.2.2.2.trans hq.b⟩
     clear hK
     refine wpSeq_take (d := 85) rfl rfl (by kernel_rfl) (fun w hS => by go_simp <;> with_reducible rfl) ?_
     dsimp only [sZ, sS]
     refine wpSeq_take (d := 3) rfl rfl (by kernel_rfl) (fun w hS => by go_simp <;> with_reducible rfl) ?_
     dsimp only [sZ, sS]
     refine wpSeq_done ?_
     refine NoPanic.normal ?_
     have HQ := Lib.hid (HB.out.1.trans hH.2.2.2.2.2)
     clear hH cx cy cz cS k0 k1 k2 k3 k4 oS
     go_wp2
     go_roundw
     case rel => exact ⟨i + 1, s10, by have := HB.out.2; omega, by go_num, rfl, HE.out, HQ.out⟩
     case measure => have := HB.out.2; simp [intOf]; omega
    ·have hlB : decide ((i : Int) < (d.ts.length : Int)) = false := decide_eq_false (by omega)
     have hlN : decide (i < d.ts.length) = false := decide_eq_false hlt
     obtain rfl : i = d.ts.length := by omega
     rw [List.take_length] at hS
     clear hlt hi
     have hS0 := hS
     have hB0 := hB
     clear hS hB
     go_wp2_with fail
     go_loopw [3, 8] (fun sv iv wr => ∃ (i : Nat) (S0 : ByteArray), i ≤ d.fs.length ∧ iv = .int .i64 i ∧ sv = .string S0 ∧ S0 = strB (d.ws.flatMap (recT kWare) ++ d.ts.flatMap (recT kTip) ++ (d.fs.take i).flatMap fun f => lineT (fillL f)) ∧ B W wr) (fun _ iv _ => d.fs.length + 1 - (intOf iv).toNat)
     case atStart => exact ⟨0, _, Nat.zero_le _, rfl, rfl, by simpa using hS0, hB0⟩
     case round =>
      obtain ⟨i, S0, hi, rfl, rfl, hS, hB⟩ := hrel
      obtain ⟨wo, rfl⟩ : ∃ wo : World, wo = wr := ⟨_, rfl⟩
      have d2 : wo.cell? ⟨H, 2, none⟩ = some (.slice co d.fs.length cc) := obj_cell (hB.obj oD) 2
      by_cases hlt : i < d.fs.length
      ·have hlB : decide ((i : Int) < (d.fs.length : Int)) = true := decide_eq_true (by omega)
       have hlN : decide (i < d.fs.length) = true := decide_eq_true hlt
       have hlI : (i : Int) < (d.fs.length : Int) := by omega
       have hi0 : (0 : Int) ≤ (i : Int) := by omega
       have wk1 : IntKind.i64.wrap ((i : Int) + 1) = (i : Int) + 1 := by rw [IntKind.wrap_i64]; omega
       obtain ⟨g, cap', e1, _, _, hr⟩ := h.fs.at_ hlt
       obtain ⟨rfl, _, rfl⟩ : co = some g ∧ True ∧ cc = cap' := by simpa using e1
       obtain ⟨F, hF⟩ : ∃ F, d.fs[i]? = some F := ⟨_, List.getElem?_eq_getElem hlt⟩
       have hFe : d.fs[i] = F := by rw [List.getElem?_eq_getElem hlt] at hF; simpa using hF
       rw [hFe] at hr
       obtain ⟨g0, g1, g2, g3⟩ := hr.keepB hB
       obtain ⟨n1, n2, n3, n4, n5⟩ := hNF F (List.mem_of_getElem? hF)
       have hFl : ∀ f ∈ d.fs, (lineT (fillL f)).length ≤ 100 := by
        intro f hf
        obtain ⟨n1, n2, n3, n4, n5⟩ := hNF f hf
        have h1 := wellT_len8 n1 n2.1 n2.2 n3.1 n3.2
        obtain ⟨v0, hv⟩ := Int.eq_ofNat_of_zero_le n4
        have h2 := decS_size (n := v0) (by omega)
        rw [decS_strB, strB_size, ← hv] at h2
        simp [fillL, lineT, kFill]
        omega
       have hsz : (d.ws.flatMap (recT kWare) ++ d.ts.flatMap (recT kTip) ++ (d.fs.take i).flatMap fun f => lineT (fillL f)).length ≤ 2000000 := by
        have h1 := flat_len9 (fun f => lineT (fillL f)) 100 (d.fs.take i) (fun f hf => hFl f (List.mem_of_mem_take hf))
        have h2 := flat_len9 (recT kWare) 1000 d.ws (fun r hr => by obtain ⟨x, y, z, hR⟩ := hNW r hr; exact recT_len (by decide) hR)
        have h3 := flat_len9 (recT kTip) 1000 d.ts (fun r hr => by obtain ⟨x, y, z, hR⟩ := hNT r hr; exact recT_len (by decide) hR)
        rw [List.length_take] at h1
        rw [List.length_append, List.length_append]
        omega
       have hT1 : (d.ws.flatMap (recT kWare) ++ d.ts.flatMap (recT kTip) ++ (d.fs.take (i + 1)).flatMap fun f => lineT (fillL f)) = (d.ws.flatMap (recT kWare) ++ d.ts.flatMap (recT kTip) ++ (d.fs.take i).flatMap fun f => lineT (fillL f)) ++ lineT (fillL F) := by rw [take_flat hF]; first | done | simp
       generalize (d.ws.flatMap (recT kWare) ++ d.ts.flatMap (recT kTip) ++ (d.fs.take i).flatMap fun f => lineT (fillL f)) = T at *
       have hz0 : S0.size ≤ 2000000 := by rw [hS, strB_size]; exact hsz
       have hwl := wellT_len8 n1 n2.1 n2.2 n3.1 n3.2
       obtain ⟨v0, hv⟩ := Int.eq_ofNat_of_zero_le n4
       obtain ⟨N, R, C, VV⟩ := F
       simp only at g0 g1 g2 g3 n1 n2 n3 n4 n5 hwl hv
       subst hv
       have cW := fun w => r8wtext_any N R C w
       obtain ⟨WT, hWT⟩ : ∃ WT, strB (wellT N R C) = WT := ⟨_, rfl⟩
       rw [hWT] at cW
       have hWz : WT.size ≤ 50 := by rw [← hWT, strB_size]; omega
       have cv := fun w => r8dec_any v0 v0 (Nat.le_refl _) (by omega) w
       have v1 := decS_size (n := v0) (by omega)
       obtain ⟨Dv, hDv⟩ : ∃ D, decS v0 = D := ⟨_, rfl⟩
       rw [hDv] at v1
       simp only [hDv] at cv
       obtain ⟨s1, j1⟩ : ∃ x, S0 ++ ({ data := #[102, 105, 108, 108, 32] } : ByteArray) = x := ⟨_, rfl⟩
       have n1 : ¬ 9223372036854775807 < S0.size + 5 := by omega
       have m1 : ¬ 9223372036854775807 < S0.size + ({ data := #[102, 105, 108, 108, 32] } : ByteArray).size := n1
       have z1 : s1.size ≤ 2000000 + 5 := by rw [← j1, ByteArray.size_append]; show S0.size + 5 ≤ _; omega
       obtain ⟨s2, j2⟩ : ∃ x, s1 ++ WT = x := ⟨_, rfl⟩
       have n2 : ¬ 9223372036854775807 < s1.size + WT.size := by omega
       have z2 : s2.size ≤ 2000000 + 55 := by rw [← j2, ByteArray.size_append]; omega
       obtain ⟨s3, j3⟩ : ∃ x, s2 ++ ({ data := #[32] } : ByteArray) = x := ⟨_, rfl⟩
       have n3 : ¬ 9223372036854775807 < s2.size + 1 := by omega
       have m3 : ¬ 9223372036854775807 < s2.size + ({ data := #[32] } : ByteArray).size := n3
       have z3 : s3.size ≤ 2000000 + 56 := by rw [← j3, ByteArray.size_append]; show s2.size + 1 ≤ _; omega
       obtain ⟨s4, j4⟩ : ∃ x, s3 ++ Dv = x := ⟨_, rfl⟩
       have n4 : ¬ 9223372036854775807 < s3.size + Dv.size := by omega
       have z4 : s4.size ≤ 2000000 + 76 := by rw [← j4, ByteArray.size_append]; omega
       obtain ⟨s5, j5⟩ : ∃ x, s4 ++ ({ data := #[10] } : ByteArray) = x := ⟨_, rfl⟩
       have n5 : ¬ 9223372036854775807 < s4.size + 1 := by omega
       have m5 : ¬ 9223372036854775807 < s4.size + ({ data := #[10] } : ByteArray).size := n5
       have z5 : s5.size ≤ 2000000 + 77 := by rw [← j5, ByteArray.size_append]; show s4.size + 1 ≤ _; omega
       have HE : Hid (s5 = strB (d.ws.flatMap (recT kWare) ++ d.ts.flatMap (recT kTip) ++ (d.fs.take (i + 1)).flatMap fun f => lineT (fillL f))) := Lib.hid (by rw [hT1]; exact fill_text hS hWT hDv j1 j2 j3 j4 j5)
       have HB := Lib.hid (And.intro hB hlt)
       clear hS hT1 hWT hDv hsz hFl hF hFe e1 hlt hB hr
       go_wp2_with fail
       refine wp_region_noPanic ?_
       refine wp_region_seq (S := fun w' => w'.cell? ⟨H, 2, none⟩ = some (.slice (some g) d.fs.length cc) ∧ w'.cell? (g.add (i * 4)) = some (.string N) ∧ w'.cell? ⟨(g.add (i * 4)).block, (g.add (i * 4)).off + 1, none⟩ = some (.int .i64 R) ∧ w'.cell? ⟨(g.add (i * 4)).block, (g.add (i * 4)).off + 2, none⟩ = some (.int .i64 C) ∧ w'.cell? ⟨(g.add (i * 4)).block, (g.add (i * 4)).off + 3, none⟩ = some (.int .i64 (v0 : Nat)) ∧ B wo w') [(0, 0), (1, 0), (2, 0), (3, 0), (4, 0), (5, 0), (6, 0), (7, 0), (11, 0), (12, 0), (13, 0), (14, 0), (15, 0), (16, 0), (8, 2), (9, 0), (10, 0), (17, 2), (18, 0), (19, 0), (20, 0)] [0, 1, 0, 4, 0, 24, 32, 64, 128, 258, 512, 0, 2048, 0, 12288, 16384, 32768, 65792, 132096, 262144, 1048575] [0, 1, 0, 4, 0, 24, 32, 64, 128, 258, 512, 0, 2048, 0, 12288, 16384, 32768, 65536, 132096, 262144, 524289] (by kernel_rfl) (by kernel_rfl) (fun _ _ _ _ _ h => h) ?_ (fun hH => ?_)
       ·exact ⟨d2, g0, g1, g2, g3, (B.refl wo).drew⟩
       refine wpSeq_take (d := 93) rfl rfl (by kernel_rfl) (fun w hS => by go_simp <;> with_reducible rfl) ?_
       dsimp only [sZ, sS]
       refine wpSeq_take (d := 94) rfl rfl (by kernel_rfl) (fun w hS => by go_simp <;> with_reducible rfl) ?_
       dsimp only [sZ, sS]
       refine wpSeq_take (d := 95) rfl rfl (by kernel_rfl) (fun w hS => by go_simp <;> with_reducible rfl) ?_
       dsimp only [sZ, sS]
       refine wpSeq_take (d := 96) rfl rfl (by kernel_rfl) (fun w hS => by go_simp <;> with_reducible rfl) ?_
       dsimp only [sZ, sS]
       refine wpSeq_take (d := 97) rfl rfl (by kernel_rfl) (fun w hS => by go_simp <;> with_reducible rfl) ?_
       dsimp only [sZ, sS]
       refine wpSeq_take (d := 98) rfl rfl (by kernel_rfl) (fun w hS => by go_simp <;> with_reducible rfl) ?_
       dsimp only [sZ, sS]
       refine wpSeq_take (d := 99) rfl rfl (by kernel_rfl) (fun w hS => by go_simp <;> with_reducible rfl) ?_
       dsimp only [sZ, sS]
       refine wpSeq_take (d := 100) rfl rfl (by kernel_rfl) (fun w hS => by go_simp <;> with_reducible rfl) ?_
       dsimp only [sZ, sS]
       refine wpSeq_take (d := 104) rfl rfl (by kernel_rfl) (fun w hS => by go_simp <;> with_reducible rfl) ?_
       dsimp only [sZ, sS]
       refine wpSeq_take (d := 105) rfl rfl (by kernel_rfl) (fun w hS => by go_simp <;> with_reducible rfl) ?_
       dsimp only [sZ, sS]
       refine wpSeq_take (d := 106) rfl rfl (by kernel_rfl) (fun w hS => by go_simp <;> with_reducible rfl) ?_
       dsimp only [sZ, sS]
       refine wpSeq_take (d := 107) rfl rfl (by kernel_rfl) (fun w hS => by go_simp <;> with_reducible rfl) ?_
       dsimp only [sZ, sS]
       refine wpSeq_take (d := 108) rfl rfl (by kernel_rfl) (fun w hS => by go_simp <;> with_reducible rfl) ?_
       dsimp only [sZ, sS]
       refine wpSeq_take (d := 109) rfl rfl (by kernel_rfl) (fun w hS => by go_simp <;> with_reducible rfl) ?_
       dsimp only [sZ, sS]
       refine wpSeq_call rfl (by kernel_rfl) (fun K hK => ?_)
       go_simp
       (with_reducible refine (cW _).mono ?_)
       rintro e w' ⟨rfl, hq⟩
       refine hK.out _ _ ?_ (fun hH => ?_)
       ·exact ⟨hq.keep hH.1, hq.keep hH.2.1, hq.keep hH.2.2.1, hq.keep hH.2.2.2.1, hq.keep hH.2.2.2.2.1, hH.2.2.2.2.2.trans hq.b⟩
       clear hK
       refine wpSeq_take (d := 102) rfl rfl (by kernel_rfl) (fun w hS => by go_simp <;> with_reducible rfl) ?_
       dsimp only [sZ, sS]
       refine wpSeq_take (d := 103) rfl rfl (by kernel_rfl) (fun w hS => by go_simp <;> with_reducible rfl) ?_
       dsimp only [sZ, sS]
       refine wpSeq_call rfl (by kernel_rfl) (fun K hK => ?_)
       go_simp
       (with_reducible refine (cv _).mono ?_)
       rintro e w' ⟨rfl, rfl⟩
       refine hK.out _ _ hH fun hH => ?_
       clear hK
       refine wpSeq_take (d := 111) rfl rfl (by kernel_rfl) (fun w hS => by go_simp <;> with_reducible rfl) ?_
       dsimp only [sZ, sS]
       refine wpSeq_take (d := 112) rfl rfl (by kernel_rfl) (fun w hS => by go_simp <;> with_reducible rfl) ?_
       dsimp only [sZ, sS]
       refine wpSeq_take (d := 3) rfl rfl (by kernel_rfl) (fun w hS => by go_simp <;> with_reducible rfl) ?_
       dsimp only [sZ, sS]
       refine wpSeq_done ?_
       refine NoPanic.normal ?_
       have HQ := Lib.hid (HB.out.1.trans hH.2.2.2.2.2)
       clear hH cW cv
       go_wp2
       go_roundw
       case rel => exact ⟨i + 1, s5, by have := HB.out.2; omega, by go_num, rfl, HE.out, HQ.out⟩
       case measure => have := HB.out.2; simp [intOf]; omega
      ·have hlB : decide ((i : Int) < (d.fs.length : Int)) = false := decide_eq_false (by omega)
       have hlN : decide (i < d.fs.length) = false := decide_eq_false hlt
       obtain rfl : i = d.fs.length := by omega
       rw [List.take_length] at hS
       have HZ := Lib.hid (And.intro (hS.trans hE.out.symm) (hWB.trans hB))
       clear hS hlt hi hB
       go_wp2
       go_ret
       exact ⟨by first | rfl | (rw [HZ.out.1]; rfl), HZ.out.2⟩
end Go.Proofs.YtglniapfnhedoaaGreatDoor
namespace Go.Proofs.YtglniapfnhedoaaGreatDoor
open Go.RowKit
theorem conv_b (w : World) (e : TypeId) (s : ByteArray) : B w (Lib.bytesWorld w e s) :=
 ⟨Lib.below_freeze (((B.refl w).drew.alloc _ _).below) (p := ⟨w.heap.size, _, none⟩) (Nat.le_refl _) _⟩
theorem isB_conv (w : World) (e : TypeId) (T : List UInt8) (h : T.length ≤ 1000000) : IsB (Lib.bytesWorld w e (strB T)) (some ⟨w.heap.size, 0, none⟩) (grownCap w (strB T).size 0 e) w.heap.size 0 T := by
 have hz : (strB T).size = T.length := strB_size T
 refine ⟨fun i c hc => ?_, fun _ => rfl, ?_, grownCap_le_maxLen _ _ _ _ (by rw [hz]; unfold maxLen; omega)⟩
 ·have hi : i < T.length := (List.getElem?_eq_some_iff.1 hc).1
  rw [Nat.zero_add, Lib.bytesWorld_cell w e (strB T) i (by rw [hz]; exact hi)]
  have : (strB T).data.toList.getD i 0 = c := by
   show T.getD i 0 = c
   rw [List.getD_eq_getElem?_getD, hc]
   rfl
  rw [this]
 ·rw [← hz]
  exact grownCap_ge _ _ _ _
end Go.Proofs.YtglniapfnhedoaaGreatDoor
