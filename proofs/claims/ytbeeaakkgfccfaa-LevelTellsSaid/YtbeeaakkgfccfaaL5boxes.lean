/-
  Layer 5: the walk of LevelBoxes.
-/
import Derived.Test.YtbeeaakkgfccfaaL5a
import Derived.Test.YtbeeaakkgfccfaaLvb
import Derived.Test.YtbeeaakkgfccfaaWf
import Derived.Test.YtbeeaakkgfccfaaReg
namespace Go.Proofs.Ytbeeaakkgfccfaa
open Go.RowKit

set_option maxRecDepth 100000 in
set_option maxHeartbeats 2000000 in
theorem lvboxes_law {T : World → Value → List (Int × Int) → Prop} (c : TabC T) (lv : LvC T) (lw : VolC T) (a n v part : Int) (ha : (Lit.int .u8 a).wf = true) (hn : (Lit.int .u8 n).wf = true) (hv : (Lit.int .u32 v).wf = true) (hp : (Lit.int .i64 part).wf = true) (w : World) :
    Calls Try.prog 7 #[.int .u8 a, .int .u8 n, .int .u32 v, .int .i64 part] w fun e w' => e = .returned (.bool true) ∧ B w w' := by
  obtain ⟨a1, a2⟩ := u8_wf ha
  obtain ⟨n1, n2⟩ := u8_wf hn
  obtain ⟨v1, v2⟩ := u32_wf hv
  have ip := i64_wf hp
  clear ha hn hv hp
  have c0 := fun w => known5_any c lv lw w
  obtain ⟨a0, ea⟩ : ∃ x, a % 20 = x := ⟨_, rfl⟩
  have ea' : a.tmod 20 = a0 := by rw [Int.tmod_eq_emod_of_nonneg a1]; exact ea
  obtain ⟨n0, en⟩ : ∃ x, n % 100 = x := ⟨_, rfl⟩
  have en' : n.tmod 100 = n0 := by rw [Int.tmod_eq_emod_of_nonneg n1]; exact en
  have ba : 0 ≤ a0 ∧ a0 ≤ 19 := by omega
  have bn : 0 ≤ n0 ∧ n0 ≤ 99 := by omega
  have wa : IntKind.i64.wrap a0 = a0 := wrapI (by omega) (by omega)
  have wn : IntKind.i64.wrap n0 = n0 := wrapI (by omega) (by omega)
  have wv : IntKind.i64.wrap v = v := wrapI (by omega) (by omega)
  obtain ⟨x, ex⟩ : ∃ x, a0 + 1 = x := ⟨_, rfl⟩
  obtain ⟨k, ek⟩ : ∃ x, n0 + 1 = x := ⟨_, rfl⟩
  have wx : IntKind.i64.wrap x = x := wrapI (by omega) (by omega)
  have wk : IntKind.i64.wrap k = k := wrapI (by omega) (by omega)
  obtain ⟨H, eH⟩ : ∃ H, k * 100 = H := ⟨_, rfl⟩
  have wH : IntKind.i64.wrap H = H := wrapI (by omega) (by omega)
  obtain ⟨y, ey⟩ : ∃ y, 1000 * x = y := ⟨_, rfl⟩
  have wy : IntKind.i64.wrap y = y := wrapI (by omega) (by omega)
  have hok : secOk ⟨false, H, 1000, y, 1000, y⟩ = true := by
    unfold secOk inB
    have : H.tmod 100 = 0 := by rw [Int.tmod_eq_emod_of_nonneg (by omega)]; omega
    simp [this]
    omega
  have hr := right_one hok
  have hb := tbnd_of hr
  have hfl := flat_slices hok rfl rfl
  have c1 := fun v w h => both_any c v [⟨false, H, 1000, y, 1000, y⟩] w h hr
  have hI : ∀ s ∈ [(⟨false, H, 1000, y, 1000, y⟩ : Sec)], s.I := fun s hs => by
    rw [List.mem_singleton.1 hs]
    exact ⟨by unfold I64; simp only; omega, by unfold I64; simp only; omega, by unfold I64; simp only; omega, by unfold I64; simp only; omega, by unfold I64; simp only; omega⟩
  obtain ⟨N, hHN⟩ : ∃ N : Nat, (H / 100).toNat = N := ⟨_, rfl⟩
  have hNk : (N : Int) = k := by omega
  rw [hHN] at hfl
  have har : ∀ u, 100 * areaM false 1000 (if false = true then 0 else y) u = 1000000 * (x * 100) := fun u => by simp [areaM]; omega
  rw [har, har] at hfl
  have hlen : (slAll [⟨false, H, 1000, y, 1000, y⟩]).length = N := by rw [hfl]; simp
  rw [hfl] at c1 hb
  have hxh : x * 100 * (N : Int) = x * H := by rw [hNk, Int.mul_assoc, ← eH, Int.mul_comm 100]
  obtain ⟨X, eX⟩ : ∃ X, x * H = X := ⟨_, rfl⟩
  have bX : 1 * 100 ≤ x * H := mul_le (by omega) (by omega) (by omega) (by omega)
  have bX2 : x * H ≤ 20 * 10000 := mul_le (by omega) (by omega) (by omega) (by omega)
  rw [eX] at hxh bX bX2
  have wX : IntKind.i64.wrap X = X := wrapI (by omega) (by omega)
  obtain ⟨Y, eY⟩ : ∃ Y, X + 50 = Y := ⟨_, rfl⟩
  have wY : IntKind.i64.wrap Y = Y := wrapI (by omega) (by omega)
  obtain ⟨u, eu⟩ : ∃ u, v.tmod Y = u := ⟨_, rfl⟩
  have bu : 0 ≤ u ∧ u < Y := by
    rw [Int.tmod_eq_emod_of_nonneg v1] at eu
    have := Int.emod_nonneg v (show Y ≠ 0 by omega)
    have := Int.emod_lt_of_pos v (show 0 < Y by omega)
    omega
  have hY0 : ¬ Y = 0 := by omega
  have wu : IntKind.i64.wrap u = u := wrapI (by omega) (by omega)
  have hTr := box_true (x := x) (w := u) (N := N) part (by omega) bu.1 (by omega)
  rw [hxh] at hTr
  have hLo := box_low (P := x * 100) (w := u) (N := N) (by omega) bu.1 (by omega)
  have hHi := box_high (P := x * 100) (w := u) (N := N) (by omega) bu.1 (by omega)
  rw [hxh] at hLo hHi
  have cTr := fun v w h => lv.tru v (List.replicate N (1000000 * (x * 100), 1000000 * (x * 100))) u part w hb (by unfold I64; omega) ip h
  have cLo := fun v w h => lv.low v (List.replicate N (1000000 * (x * 100), 1000000 * (x * 100))) u w hb (by unfold I64; omega) h
  have cHi := fun v w h => lv.high v (List.replicate N (1000000 * (x * 100), 1000000 * (x * 100))) u w hb (by unfold I64; omega) h
  have wH1 : IntKind.i64.wrap (H + 1) = H + 1 := wrapI (by omega) (by omega)
  by_cases hw : X < u
  · have hwB : decide (X < u) = true := decide_eq_true hw
    rw [hTr.1 hw, show 100 * (N : Int) + 1 = H + 1 by omega] at cTr
    generalize List.replicate N (1000000 * (x * 100), 1000000 * (x * 100)) = L at *
    clear hTr hLo hHi cLo cHi hfl har hok hr ea en lv lw hb hlen hxh bX bX2
    go_enter Try.func7, Try.ntmps7
    go_wp2_with fail
    refine (c0 _).mono ?_
    rintro e w1 ⟨rfl, g⟩
    go_wp2_with fail
    refine (c1 _ _ (isSecs_new (l := [⟨false, H, 1000, y, 1000, y⟩]) rfl rfl hI (by simp) (by decide))).mono ?_
    rintro e w2 ⟨pt, pw, rfl, ht, _, q⟩
    replace g := (g.alloc _ _).trans q
    clear q
    go_wp2_with fail
    refine (cTr _ _ ht).mono ?_
    rintro e wS ⟨rfl, q⟩
    replace g := g.trans q
    replace ht := c.keep ht q
    clear q
    go_wp2
    go_ret
    exact ⟨rfl, g⟩
  · have hwB : decide (X < u) = false := decide_eq_false hw
    obtain ⟨q1, eq1⟩ : ∃ q, u / x = q := ⟨_, rfl⟩
    rw [hTr.2 (by omega), eq1] at cTr
    have tq1 : u.tdiv x = q1 := by rw [Int.tdiv_eq_ediv_of_nonneg bu.1]; exact eq1
    have bq1 : 0 ≤ q1 ∧ q1 ≤ u := by rw [← eq1]; exact ⟨Int.ediv_nonneg bu.1 (by omega), Int.ediv_le_self _ bu.1⟩
    have hx0 : ¬ x = 0 := by omega
    obtain ⟨q2, eq2⟩ : ∃ q, q1 / 100 = q := ⟨_, rfl⟩
    have tq2 : q1.tdiv 100 = q2 := by rw [Int.tdiv_eq_ediv_of_nonneg bq1.1]; exact eq2
    have ed : u / (x * 100) = q2 := by
      have h := @Int.ediv_ediv u x 100
      rw [if_neg (by rintro ⟨h, _⟩; omega), eq1, eq2] at h
      omega
    rw [hLo (by omega), ed] at cLo
    obtain ⟨P, eP⟩ : ∃ P, x * 100 = P := ⟨_, rfl⟩
    obtain ⟨s1, es1⟩ : ∃ z, u + P = z := ⟨_, rfl⟩
    obtain ⟨s2, es2⟩ : ∃ z, s1 - 1 = z := ⟨_, rfl⟩
    obtain ⟨q3, eq3⟩ : ∃ q, s2 / P = q := ⟨_, rfl⟩
    rw [hHi (by omega), eP, es1, es2, eq3] at cHi
    rw [eP] at cTr cLo c1 hb
    have hP0 : ¬ P = 0 := by omega
    have tq3 : s2.tdiv P = q3 := by rw [Int.tdiv_eq_ediv_of_nonneg (by omega)]; exact eq3
    have bq3 : 0 ≤ q3 ∧ q3 ≤ s2 := by rw [← eq3]; exact ⟨Int.ediv_nonneg (by omega) (by omega), Int.ediv_le_self _ (by omega)⟩
    have wP : IntKind.i64.wrap (100 * x) = P := by rw [Int.mul_comm, eP]; exact wrapI (by omega) (by omega)
    have ws1 : IntKind.i64.wrap (u + P) = s1 := by rw [es1]; exact wrapI (by omega) (by omega)
    have ws2 : IntKind.i64.wrap (s1 - 1) = s2 := by rw [es2]; exact wrapI (by omega) (by omega)
    have wq1 : IntKind.i64.wrap q1 = q1 := wrapI (by omega) (by omega)
    have wq2 : IntKind.i64.wrap q2 = q2 := wrapI (by omega) (by omega)
    have wq3 : IntKind.i64.wrap q3 = q3 := wrapI (by omega) (by omega)
    have wq22 : IntKind.i64.wrap (q2 * 100) = q2 * 100 := wrapI (by omega) (by omega)
    have wq33 : IntKind.i64.wrap (q3 * 100) = q3 * 100 := wrapI (by omega) (by omega)
    generalize List.replicate N (1000000 * P, 1000000 * P) = L at *
    clear hTr hLo hHi hfl har hok hr ea en lv lw hb hlen hxh bX bX2 eq1 eq2 ed es1 es2 eq3
    go_enter Try.func7, Try.ntmps7
    go_wp2_with fail
    refine (c0 _).mono ?_
    rintro e w1 ⟨rfl, g⟩
    go_wp2_with fail
    refine (c1 _ _ (isSecs_new (l := [⟨false, H, 1000, y, 1000, y⟩]) rfl rfl hI (by simp) (by decide))).mono ?_
    rintro e w2 ⟨pt, pw, rfl, ht, _, q⟩
    replace g := (g.alloc _ _).trans q
    clear q
    go_wp2_with fail
    refine (cTr _ _ ht).mono ?_
    rintro e wS ⟨rfl, q⟩
    replace g := g.trans q
    replace ht := c.keep ht q
    clear q
    obtain ⟨WW, eWW⟩ : ∃ W : World, W = wS := ⟨_, rfl⟩
    subst eWW
    have cLow := fun w h => cLo (.pointer (some pt)) w h
    have cHigh := fun w h => cHi (.pointer (some pt)) w h
    clear cLo cHi c1 cTr
    go_wp2_with fail
    refine wp_region_noPanic ?_
    refine wp_region_seq (S := fun w' => T w' (.pointer (some pt)) L ∧ B WW w') [(0, 0), (1, 0), (2, 0), (3, 0), (4, 0), (5, 0), (6, 0), (7, 0), (9, 0), (10, 0), (11, 0), (12, 0), (13, 0), (8, 2), (14, 0), (15, 0), (16, 0), (17, 0), (18, 0), (20, 0), (21, 0), (22, 0), (23, 0), (24, 0), (25, 0), (26, 0), (27, 0), (28, 0), (19, 2), (29, 0), (30, 0), (31, 0)] [0, 0, 0, 6, 9, 16, 32, 32, 224, 32, 32, 1568, 2080, 4128, 8480, 16416, 33024, 65536, 65536, 458752, 65536, 65536, 2162688, 5308416, 8454144, 65536, 33619968, 83951616, 134283264, 269025280, 536936448, 2147483647] [0, 0, 0, 6, 9, 16, 32, 32, 224, 32, 32, 1568, 2080, 4128, 8480, 16416, 32768, 65536, 65536, 458752, 65536, 65536, 2162688, 5308416, 8454144, 65536, 33619968, 83951616, 134283264, 269025280, 536936448, 1073741824] (by kernel_rfl) (by kernel_rfl) (fun _ _ _ _ _ h => h) ?_ (fun hH => ?_)
    · exact ⟨c.keep ht (B.refl _).drew, (B.refl _).drew⟩
    refine wpSeq_take (d := 61) (v := ?_) rfl rfl (by kernel_rfl) (fun w hS => ?_) ?_
    rotate_left
    · go_simp <;> with_reducible rfl
    dsimp only [List.set_cons_zero, List.set_cons_succ]
    refine wpSeq_take (d := 62) (v := ?_) rfl rfl (by kernel_rfl) (fun w hS => ?_) ?_
    rotate_left
    · go_simp <;> with_reducible rfl
    dsimp only [List.set_cons_zero, List.set_cons_succ]
    refine wpSeq_take (d := 63) (v := ?_) rfl rfl (by kernel_rfl) (fun w hS => ?_) ?_
    rotate_left
    · go_simp <;> with_reducible rfl
    dsimp only [List.set_cons_zero, List.set_cons_succ]
    refine wpSeq_take (d := 64) (v := ?_) rfl rfl (by kernel_rfl) (fun w hS => ?_) ?_
    rotate_left
    · go_simp <;> with_reducible rfl
    dsimp only [List.set_cons_zero, List.set_cons_succ]
    refine wpSeq_take (d := 65) (v := ?_) rfl rfl (by kernel_rfl) (fun w hS => ?_) ?_
    rotate_left
    · go_simp <;> with_reducible rfl
    dsimp only [List.set_cons_zero, List.set_cons_succ]
    refine wpSeq_take (d := 66) (v := ?_) rfl rfl (by kernel_rfl) (fun w hS => ?_) ?_
    rotate_left
    · go_simp <;> with_reducible rfl
    dsimp only [List.set_cons_zero, List.set_cons_succ]
    refine wpSeq_take (d := 67) (v := ?_) rfl rfl (by kernel_rfl) (fun w hS => ?_) ?_
    rotate_left
    · go_simp <;> with_reducible rfl
    dsimp only [List.set_cons_zero, List.set_cons_succ]
    refine wpSeq_take (d := 68) (v := ?_) rfl rfl (by kernel_rfl) (fun w hS => ?_) ?_
    rotate_left
    · go_simp <;> with_reducible rfl
    dsimp only [List.set_cons_zero, List.set_cons_succ]
    refine wpSeq_take (d := 70) (v := ?_) rfl rfl (by kernel_rfl) (fun w hS => ?_) ?_
    rotate_left
    · go_simp <;> with_reducible rfl
    dsimp only [List.set_cons_zero, List.set_cons_succ]
    refine wpSeq_take (d := 71) (v := ?_) rfl rfl (by kernel_rfl) (fun w hS => ?_) ?_
    rotate_left
    · go_simp <;> with_reducible rfl
    dsimp only [List.set_cons_zero, List.set_cons_succ]
    refine wpSeq_take (d := 72) (v := ?_) rfl rfl (by kernel_rfl) (fun w hS => ?_) ?_
    rotate_left
    · go_simp <;> with_reducible rfl
    dsimp only [List.set_cons_zero, List.set_cons_succ]
    refine wpSeq_take (d := 73) (v := ?_) rfl rfl (by kernel_rfl) (fun w hS => ?_) ?_
    rotate_left
    · go_simp <;> with_reducible rfl
    dsimp only [List.set_cons_zero, List.set_cons_succ]
    refine wpSeq_take (d := 74) (v := ?_) rfl rfl (by kernel_rfl) (fun w hS => ?_) ?_
    rotate_left
    · go_simp <;> with_reducible rfl
    dsimp only [List.set_cons_zero, List.set_cons_succ]
    refine wpSeq_call rfl (by kernel_rfl) (fun K hK => ?_)
    go_simp
    (with_reducible refine (cLow _ hH.1).mono ?_)
    rintro e w' ⟨rfl, hq⟩
    refine hK.out _ _ ?_ (fun hH => ?_)
    · exact ⟨c.keep hH.1 hq, hH.2.trans hq⟩
    clear hK
    refine wpSeq_take (d := 75) (v := ?_) rfl rfl (by kernel_rfl) (fun w hS => ?_) ?_
    rotate_left
    · go_simp <;> with_reducible rfl
    dsimp only [List.set_cons_zero, List.set_cons_succ]
    refine wpSeq_take (d := 76) (v := ?_) rfl rfl (by kernel_rfl) (fun w hS => ?_) ?_
    rotate_left
    · go_simp <;> with_reducible rfl
    dsimp only [List.set_cons_zero, List.set_cons_succ]
    refine wpSeq_take (d := 77) (v := ?_) rfl rfl (by kernel_rfl) (fun w hS => ?_) ?_
    rotate_left
    · go_simp <;> with_reducible rfl
    dsimp only [List.set_cons_zero, List.set_cons_succ]
    refine wpSeq_take (d := 78) (v := ?_) rfl rfl (by kernel_rfl) (fun w hS => ?_) ?_
    rotate_left
    · go_simp <;> with_reducible rfl
    dsimp only [List.set_cons_zero, List.set_cons_succ]
    refine wpSeq_take (d := 79) (v := ?_) rfl rfl (by kernel_rfl) (fun w hS => ?_) ?_
    rotate_left
    · go_simp <;> with_reducible rfl
    dsimp only [List.set_cons_zero, List.set_cons_succ]
    refine wpSeq_take (d := 81) (v := ?_) rfl rfl (by kernel_rfl) (fun w hS => ?_) ?_
    rotate_left
    · go_simp <;> with_reducible rfl
    dsimp only [List.set_cons_zero, List.set_cons_succ]
    refine wpSeq_take (d := 82) (v := ?_) rfl rfl (by kernel_rfl) (fun w hS => ?_) ?_
    rotate_left
    · go_simp <;> with_reducible rfl
    dsimp only [List.set_cons_zero, List.set_cons_succ]
    refine wpSeq_take (d := 83) (v := ?_) rfl rfl (by kernel_rfl) (fun w hS => ?_) ?_
    rotate_left
    · go_simp <;> with_reducible rfl
    dsimp only [List.set_cons_zero, List.set_cons_succ]
    refine wpSeq_take (d := 84) (v := ?_) rfl rfl (by kernel_rfl) (fun w hS => ?_) ?_
    rotate_left
    · go_simp <;> with_reducible rfl
    dsimp only [List.set_cons_zero, List.set_cons_succ]
    refine wpSeq_take (d := 85) (v := ?_) rfl rfl (by kernel_rfl) (fun w hS => ?_) ?_
    rotate_left
    · go_simp <;> with_reducible rfl
    dsimp only [List.set_cons_zero, List.set_cons_succ]
    refine wpSeq_take (d := 86) (v := ?_) rfl rfl (by kernel_rfl) (fun w hS => ?_) ?_
    rotate_left
    · go_simp <;> with_reducible rfl
    dsimp only [List.set_cons_zero, List.set_cons_succ]
    refine wpSeq_take (d := 87) (v := ?_) rfl rfl (by kernel_rfl) (fun w hS => ?_) ?_
    rotate_left
    · go_simp <;> with_reducible rfl
    dsimp only [List.set_cons_zero, List.set_cons_succ]
    refine wpSeq_take (d := 88) (v := ?_) rfl rfl (by kernel_rfl) (fun w hS => ?_) ?_
    rotate_left
    · go_simp <;> with_reducible rfl
    dsimp only [List.set_cons_zero, List.set_cons_succ]
    refine wpSeq_take (d := 89) (v := ?_) rfl rfl (by kernel_rfl) (fun w hS => ?_) ?_
    rotate_left
    · go_simp <;> with_reducible rfl
    dsimp only [List.set_cons_zero, List.set_cons_succ]
    refine wpSeq_call rfl (by kernel_rfl) (fun K hK => ?_)
    go_simp
    (with_reducible refine (cHigh _ hH.1).mono ?_)
    rintro e w' ⟨rfl, hq⟩
    refine hK.out _ _ ?_ (fun hH => ?_)
    · exact ⟨c.keep hH.1 hq, hH.2.trans hq⟩
    clear hK
    refine wpSeq_take (d := 90) (v := ?_) rfl rfl (by kernel_rfl) (fun w hS => ?_) ?_
    rotate_left
    · go_simp <;> with_reducible rfl
    dsimp only [List.set_cons_zero, List.set_cons_succ]
    refine wpSeq_take (d := 91) (v := ?_) rfl rfl (by kernel_rfl) (fun w hS => ?_) ?_
    rotate_left
    · go_simp <;> with_reducible rfl
    dsimp only [List.set_cons_zero, List.set_cons_succ]
    refine wpSeq_take (d := 8) (v := ?_) rfl rfl (by kernel_rfl) (fun w hS => ?_) ?_
    rotate_left
    · go_simp <;> with_reducible rfl
    dsimp only [List.set_cons_zero, List.set_cons_succ]
    refine wpSeq_done ?_
    refine NoPanic.normal ?_
    replace g := g.trans hH.2
    go_wp2
    go_ret
    exact ⟨rfl, g⟩
end Go.Proofs.Ytbeeaakkgfccfaa
