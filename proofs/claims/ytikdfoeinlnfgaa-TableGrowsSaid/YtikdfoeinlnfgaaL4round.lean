/-
  Layer 4: the walk of TableRound.
-/
import Derived.Test.YtikdfoeinlnfgaaL4a
import Derived.Test.YtikdfoeinlnfgaaReg
import Derived.Test.YtikdfoeinlnfgaaSecq
namespace Go.Proofs.Ytikdfoeinlnfgaa
open Go.RowKit

theorem rightS_one {s : Sec} (h : secOk s = true) : rightS [s] = true := by
  have := secOk_h s h
  unfold rightS
  simp [h, hsumI]
  omega
theorem tsum_div (X N : Int) (hN : 1 ≤ N) : (100 * X * N) / (N * 100) = X := by
  rw [show 100 * X * N = X * (N * 100) by rw [Int.mul_comm N 100, ← Int.mul_assoc, Int.mul_comm X 100]]
  exact Int.mul_ediv_cancel _ (by omega)
theorem tsum_up (X N : Int) (hN : 1 ≤ N) : (100 * X * N + N * 100 - 1) / (N * 100) = X := by
  rw [show 100 * X * N + N * 100 - 1 = (N * 100 - 1) + X * (N * 100) by rw [Int.mul_comm N 100, ← Int.mul_assoc X 100 N, Int.mul_comm X 100]; omega]
  rw [Int.add_mul_ediv_right _ _ (by omega), Int.ediv_eq_zero_of_lt (by omega) (by omega)]
  omega

set_option maxRecDepth 100000 in
set_option maxHeartbeats 8000000 in
theorem round_law {T : World → Value → List (Int × Int) → Prop} (c : TabC T) (d n : Int) (hd : (Lit.int .u16 d).wf = true) (hn : (Lit.int .u8 n).wf = true) (w : World) :
    Calls Try.prog 5 #[.int .u16 d, .int .u8 n] w fun e w' => e = .returned (.bool true) ∧ B w w' := by
  obtain ⟨d1, d2⟩ := u16_wf hd
  obtain ⟨n1, n2⟩ := u8_wf hn
  clear hd hn
  have c0 := fun w => known4_any c w
  obtain ⟨x, ex⟩ : ∃ x, d % 20000 = x := ⟨_, rfl⟩
  have ex' : d.tmod 20000 = x := by rw [Int.tmod_eq_emod_of_nonneg d1]; exact ex
  have x1 : 0 ≤ x := by omega
  have x2 : x ≤ 19999 := by omega
  have ex2 : IntKind.i64.wrap x = x := wrapI (by omega) (by omega)
  obtain ⟨a, ea⟩ : ∃ a, x + 1 = a := ⟨_, rfl⟩
  have ea' : IntKind.i64.wrap a = a := wrapI (by omega) (by omega)
  obtain ⟨y, ey⟩ : ∃ y, n % 50 = y := ⟨_, rfl⟩
  have ey' : n.tmod 50 = y := by rw [Int.tmod_eq_emod_of_nonneg n1]; exact ey
  have y1 : 0 ≤ y := by omega
  have y2 : y ≤ 49 := by omega
  have ey2 : IntKind.i64.wrap y = y := wrapI (by omega) (by omega)
  obtain ⟨N, eN⟩ : ∃ N, y + 1 = N := ⟨_, rfl⟩
  have eN' : IntKind.i64.wrap N = N := wrapI (by omega) (by omega)
  obtain ⟨H, eH⟩ : ∃ H, 100 * N = H := ⟨_, rfl⟩
  have eH' : IntKind.i64.wrap H = H := wrapI (by omega) (by omega)
  have hok : secOk ⟨true, H, a, 0, a, 0⟩ = true := by
    unfold secOk inB
    have : H.tmod 100 = 0 := by rw [Int.tmod_eq_emod_of_nonneg (by omega)]; omega
    simp [this]
    omega
  have hr := rightS_one hok
  have hb := tbnd_of hr
  have hfl := flat_slices hok rfl rfl
  simp only [if_true] at hfl
  have c1 := fun v w h => c.yes v [⟨true, H, a, 0, a, 0⟩] w h hr
  have hI : ∀ s ∈ [(⟨true, H, a, 0, a, 0⟩ : Sec)], s.I := fun s hs => by
    rw [List.mem_singleton.1 hs]
    exact ⟨by unfold I64; simp only; omega, by unfold I64; simp only; omega, by unfold I64; simp only; omega, by unfold I64; simp only; omega, by unfold I64; simp only; omega⟩
  have hHN : (H / 100).toNat = N.toNat := by omega
  rw [hHN] at hfl
  skip
  obtain ⟨A, eA⟩ : ∃ A, a * a = A := ⟨_, rfl⟩
  have hA1 : 1 * 1 ≤ a * a := mul_le (by omega) (by omega) (by omega) (by omega)
  have hA2 : a * a ≤ 20000 * 20000 := mul_le (by omega) (by omega) (by omega) (by omega)
  have hlo : areaM true a 0 false = A * 333 / 424 := by unfold areaM; simp [eA]
  have hhi : areaM true a 0 true = (A * 355 + 451) / 452 := by unfold areaM; simp [eA]
  rw [hlo, hhi] at hfl
  rw [eA] at hA1 hA2
  obtain ⟨X, eX⟩ : ∃ X, A * 333 / 424 = X := ⟨_, rfl⟩
  obtain ⟨Y, eY⟩ : ∃ Y, (A * 355 + 451) / 452 = Y := ⟨_, rfl⟩
  have l1 := round_low A (by omega)
  have l2 := round_high A (by omega)
  rw [eX] at hfl l1
  rw [eY] at hfl l2
  have hX0 : 0 ≤ X := by omega
  have hX1 : X ≤ 400000000 := by omega
  have hY0 : 0 ≤ Y := by omega
  have hY1 : Y ≤ 400000000 := by omega
  have hlen : (slAll [⟨true, H, a, 0, a, 0⟩]).length = N.toNat := by rw [hfl]; simp
  have hNN : (N.toNat : Int) = N := by omega
  have hlowV : lowT (slAll [⟨true, H, a, 0, a, 0⟩]) (nearI (slAll [⟨true, H, a, 0, a, 0⟩]).length N) = 100 * X * N := by
    rw [hlen, show nearI N.toNat N = N.toNat by unfold nearI; omega, hfl, rep_low _ _ _ (Nat.le_refl _), hNN]
  have hhighV : highT (slAll [⟨true, H, a, 0, a, 0⟩]) (nearI (slAll [⟨true, H, a, 0, a, 0⟩]).length N) = 100 * Y * N := by
    rw [hlen, show nearI N.toNat N = N.toNat by unfold nearI; omega, hfl, rep_high _ _ _ (Nat.le_refl _), hNN]
  generalize slAll [⟨true, H, a, 0, a, 0⟩] = L at *
  have c3 := fun v w h => c.slices v L w hb h
  have c4 := fun v w h => c.low v L N w hb (by unfold I64; omega) h
  have c5 := fun v w h => c.high v L N w hb (by unfold I64; omega) h
  have c6 := fun v w h => c.tall v L w hb h
  rw [hlen, hNN] at c3 c6
  rw [hlowV] at c4
  rw [hhighV] at c5
  have e5 := tsum_div X N (by omega)
  have e6 := tsum_up Y N (by omega)
  have z0 : 0 ≤ 100 * X * N := Int.mul_nonneg (by omega) (by omega)
  have z1 : 100 * X * N ≤ 40000000000 * 50 := mul_le (by omega) (by omega) (by omega) (by omega)
  have z2 : 0 ≤ 100 * Y * N := Int.mul_nonneg (by omega) (by omega)
  have z3 : 100 * Y * N ≤ 40000000000 * 50 := mul_le (by omega) (by omega) (by omega) (by omega)
  generalize 100 * X * N = SX at *
  generalize 100 * Y * N = SY at *
  obtain ⟨hh, ehh⟩ : ∃ hh, N * 100 = hh := ⟨_, rfl⟩
  rw [ehh] at c6 e5 e6
  have q1 : SX.tdiv hh = X := by rw [Int.tdiv_eq_ediv_of_nonneg z0]; exact e5
  have q2 : (SY + hh - 1).tdiv hh = Y := by rw [Int.tdiv_eq_ediv_of_nonneg (by omega)]; exact e6
  have q3 : IntKind.i64.wrap (SY + hh) = SY + hh := wrapI (by omega) (by omega)
  have q4 : IntKind.i64.wrap (SY + hh - 1) = SY + hh - 1 := wrapI (by omega) (by omega)
  have q5 : IntKind.i64.wrap X = X := wrapI (by omega) (by omega)
  have q6 : IntKind.i64.wrap Y = Y := wrapI (by omega) (by omega)
  have q7 : ¬ hh = 0 := by omega
  have q8 : IntKind.i64.wrap (X * 1000) = X * 1000 := wrapI (by omega) (by omega)
  have q9 : IntKind.i64.wrap (Y * 1000) = Y * 1000 := wrapI (by omega) (by omega)
  have r0 : IntKind.i64.wrap A = A := wrapI (by omega) (by omega)
  have r1 : IntKind.i64.wrap (A * 785398164) = A * 785398164 := wrapI (by omega) (by omega)
  have r2 : IntKind.i64.wrap (A * 785398163) = A * 785398163 := wrapI (by omega) (by omega)
  have r3 : (A * 785398164).tdiv 1000000 = A * 785398164 / 1000000 := Int.tdiv_eq_ediv_of_nonneg (by omega)
  have r4 : (A * 785398163).tdiv 1000000 = A * 785398163 / 1000000 := Int.tdiv_eq_ediv_of_nonneg (by omega)
  obtain ⟨P1, eP1⟩ : ∃ P, A * 785398164 / 1000000 = P := ⟨_, rfl⟩
  obtain ⟨P2, eP2⟩ : ∃ P, A * 785398163 / 1000000 = P := ⟨_, rfl⟩
  rw [eP1] at l1 r3
  rw [eP2] at l2 r4
  have r5 : IntKind.i64.wrap P1 = P1 := wrapI (by omega) (by omega)
  have r6 : IntKind.i64.wrap P2 = P2 := wrapI (by omega) (by omega)
  have r7 : IntKind.i64.wrap (P1 + 1) = P1 + 1 := wrapI (by omega) (by omega)
  have r8 : decide (X * 1000 ≤ P1 + 1) = true := decide_eq_true l1
  have r9 : decide (P2 ≤ Y * 1000) = true := decide_eq_true l2
  clear hlo hhi hA1 hA2 eX eY l1 l2 hX0 hX1 hY0 hY1 z0 z1 z2 z3 e5 e6 ehh eP1 eP2 hlowV hhighV hlen hNN hfl hHN hr hok d1 d2 n1 n2 x1 x2 y1 y2
  go_enter Try.func5, Try.ntmps5
  go_wp2_with fail
  refine (c0 _).mono ?_
  rintro e w1 ⟨rfl, g⟩
  go_wp2_with fail
  refine (c1 _ _ (isSecs_new (l := [⟨true, H, a, 0, a, 0⟩]) rfl rfl hI (by simp) (by decide))).mono ?_
  rintro e w2 ⟨pa, rfl, ht, h⟩
  replace g := (g.alloc _ _).trans h
  clear h
  go_wp2_with fail
  refine (c6 _ _ ht).mono ?_
  rintro e WW ⟨rfl, h⟩
  replace g := g.trans h
  replace ht := c.keep ht h
  clear h
  go_wp2_with fail
  refine wp_region_noPanic ?_
  refine wp_region_seq (S := fun w' => T w' (.pointer (some pa)) L ∧ B WW w') [(0, 0), (1, 0), (4, 0), (6, 0), (7, 0), (10, 0), (13, 0), (2, 2), (3, 2), (5, 0), (8, 2), (9, 2), (11, 0), (12, 0), (14, 0), (15, 0), (16, 0)] [0, 0, 2, 5, 0, 24, 0, 0, 136, 320, 0, 1536, 2048, 0, 12288, 575, 65535] [0, 0, 2, 5, 0, 24, 0, 0, 128, 320, 0, 1536, 2048, 0, 12288, 32, 16384] (by kernel_rfl) (by kernel_rfl) (fun _ _ _ _ _ h => h) ?_ (fun hH => ?_)
  · exact ⟨c.keep ht (B.refl _).drew, (B.refl _).drew⟩
  refine wpSeq_take (d := 38) (v := ?_) rfl rfl (by kernel_rfl) (fun w hS => ?_) ?_
  rotate_left
  · go_simp <;> with_reducible rfl
  dsimp only [List.set_cons_zero, List.set_cons_succ]
  refine wpSeq_take (d := 39) (v := ?_) rfl rfl (by kernel_rfl) (fun w hS => ?_) ?_
  rotate_left
  · go_simp <;> with_reducible rfl
  dsimp only [List.set_cons_zero, List.set_cons_succ]
  refine wpSeq_take (d := 42) (v := ?_) rfl rfl (by kernel_rfl) (fun w hS => ?_) ?_
  rotate_left
  · go_simp <;> with_reducible rfl
  dsimp only [List.set_cons_zero, List.set_cons_succ]
  refine wpSeq_take (d := 44) (v := ?_) rfl rfl (by kernel_rfl) (fun w hS => ?_) ?_
  rotate_left
  · go_simp <;> with_reducible rfl
  dsimp only [List.set_cons_zero, List.set_cons_succ]
  refine wpSeq_take (d := 45) (v := ?_) rfl rfl (by kernel_rfl) (fun w hS => ?_) ?_
  rotate_left
  · go_simp <;> with_reducible rfl
  dsimp only [List.set_cons_zero, List.set_cons_succ]
  refine wpSeq_take (d := 48) (v := ?_) rfl rfl (by kernel_rfl) (fun w hS => ?_) ?_
  rotate_left
  · go_simp <;> with_reducible rfl
  dsimp only [List.set_cons_zero, List.set_cons_succ]
  refine wpSeq_take (d := 51) (v := ?_) rfl rfl (by kernel_rfl) (fun w hS => ?_) ?_
  rotate_left
  · go_simp <;> with_reducible rfl
  dsimp only [List.set_cons_zero, List.set_cons_succ]
  refine wpSeq_call rfl (by kernel_rfl) (fun K hK => ?_)
  go_simp
  (with_reducible refine (c3 _ _ hH.1).mono ?_)
  rintro e w' ⟨rfl, hq⟩
  refine hK.out _ _ ?_ (fun hH => ?_)
  · exact ⟨c.keep hH.1 hq, hH.2.trans hq⟩
  clear hK
  refine wpSeq_call rfl (by kernel_rfl) (fun K hK => ?_)
  go_simp
  (with_reducible refine (c4 _ _ hH.1).mono ?_)
  rintro e w' ⟨rfl, hq⟩
  refine hK.out _ _ ?_ (fun hH => ?_)
  · exact ⟨c.keep hH.1 hq, hH.2.trans hq⟩
  clear hK
  refine wpSeq_take (d := 43) (v := ?_) rfl rfl (by kernel_rfl) (fun w hS => ?_) ?_
  rotate_left
  · go_simp <;> with_reducible rfl
  dsimp only [List.set_cons_zero, List.set_cons_succ]
  refine wpSeq_call rfl (by kernel_rfl) (fun K hK => ?_)
  go_simp
  (with_reducible refine (c3 _ _ hH.1).mono ?_)
  rintro e w' ⟨rfl, hq⟩
  refine hK.out _ _ ?_ (fun hH => ?_)
  · exact ⟨c.keep hH.1 hq, hH.2.trans hq⟩
  clear hK
  refine wpSeq_call rfl (by kernel_rfl) (fun K hK => ?_)
  go_simp
  (with_reducible refine (c5 _ _ hH.1).mono ?_)
  rintro e w' ⟨rfl, hq⟩
  refine hK.out _ _ ?_ (fun hH => ?_)
  · exact ⟨c.keep hH.1 hq, hH.2.trans hq⟩
  clear hK
  refine wpSeq_take (d := 49) (v := ?_) rfl rfl (by kernel_rfl) (fun w hS => ?_) ?_
  rotate_left
  · go_simp <;> with_reducible rfl
  dsimp only [List.set_cons_zero, List.set_cons_succ]
  refine wpSeq_take (d := 50) (v := ?_) rfl rfl (by kernel_rfl) (fun w hS => ?_) ?_
  rotate_left
  · go_simp <;> with_reducible rfl
  dsimp only [List.set_cons_zero, List.set_cons_succ]
  refine wpSeq_take (d := 52) (v := ?_) rfl rfl (by kernel_rfl) (fun w hS => ?_) ?_
  rotate_left
  · go_simp <;> with_reducible rfl
  dsimp only [List.set_cons_zero, List.set_cons_succ]
  refine wpSeq_take (d := 9) (v := ?_) rfl rfl (by kernel_rfl) (fun w hS => ?_) ?_
  rotate_left
  · go_simp <;> with_reducible rfl
  dsimp only [List.set_cons_zero, List.set_cons_succ]
  refine wpSeq_take (d := 10) (v := ?_) rfl rfl (by kernel_rfl) (fun w hS => ?_) ?_
  rotate_left
  · go_simp <;> with_reducible rfl
  dsimp only [List.set_cons_zero, List.set_cons_succ]
  refine wpSeq_done ?_
  refine NoPanic.normal ?_
  obtain ⟨ht, h⟩ := hH
  replace g := g.trans h
  clear h
  go_wp2
  go_ret
  exact ⟨rfl, g⟩
end Go.Proofs.Ytikdfoeinlnfgaa
