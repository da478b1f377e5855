/-
  Layer 4: the code's areas, the bounds of a slice, a sum that is looked up.
-/
import Derived.Test.YtkiepmfknbbeaaaShS
import Derived.Test.YtkiepmfknbbeaaaR3area
import Derived.Test.YtkiepmfknbbeaaaTabw
import Derived.Lib.MinMax
namespace Go.Proofs.Ytkiepmfknbbeaaa
open Go.RowKit

theorem mv_low (A : Int) (h0 : 0 ≤ A) (h1 : A ≤ 400000000) : mv A 333 424 false = A * 333 / 424 := by
  rw [mv, if_neg (by omega), mq_pos _ _ _ (by omega), mdQ, if_neg (by decide), qv_yes (by unfold I64; omega)]
theorem mv_high (A : Int) (h0 : 0 ≤ A) (h1 : A ≤ 400000000) : mv A 355 452 true = (A * 355 + 451) / 452 := by
  rw [mv, if_neg (by omega), mq_pos _ _ _ (by omega), mdQ, if_pos (by decide), qv_yes (by unfold I64; omega)]
  omega
theorem carea_any (r : Bool) (a b : Int) (up : Bool) (h0 : 0 ≤ a) (h1 : a ≤ 20000) (h2 : 0 ≤ b) (h3 : b ≤ 20000) (w : World) :
    Calls Try.prog 71 #[.bool r, .int .i64 a, .int .i64 b, .bool up] w fun e w' => e = .returned (.int .i64 (areaM r a b up)) ∧ B w w' := by
  have hm := mul_le h0 h1 h2 h3
  have hp := Int.mul_nonneg h0 h2
  have hs := mul_le h0 h1 h0 h1
  have hq := Int.mul_nonneg h0 h0
  unfold areaM
  cases r
  · have e1 : IntKind.i64.wrap (a * b) = a * b := wrapI (by omega) (by omega)
    go_enter Try.func71, Try.ntmps71
    go_wp2
    go_ret
    exact ⟨by simp, B.refl _⟩
  · obtain ⟨A, hA⟩ : ∃ A, a * a = A := ⟨_, rfl⟩
    rw [hA] at hs hq ⊢
    have e0 : IntKind.i64.wrap (a * a) = A := by rw [hA]; exact wrapI (by omega) (by omega)
    cases up
    · have c := fun w => muldiv_any A 333 424 false (by unfold I64; omega) (by decide) (by decide) w
      rw [mv_low A hq (by omega)] at c
      generalize A * 333 / 424 = X at *
      generalize me A 333 424 false = E at *
      clear hA hs hq hm hp
      go_enter Try.func71, Try.ntmps71
      go_wp2_with fail
      refine (c _).mono ?_
      rintro e w1 ⟨rfl, g⟩
      go_wp2
      go_ret
      exact ⟨by simp, g.q.b⟩
    · have c := fun w => muldiv_any A 355 452 true (by unfold I64; omega) (by decide) (by decide) w
      rw [mv_high A hq (by omega)] at c
      generalize (A * 355 + 451) / 452 = X at *
      generalize me A 355 452 true = E at *
      clear hA hs hq hm hp
      go_enter Try.func71, Try.ntmps71
      go_wp2_with fail
      refine (c _).mono ?_
      rintro e w1 ⟨rfl, g⟩
      go_wp2
      go_ret
      exact ⟨by simp, g.q.b⟩

theorem cbound_low (r : Bool) (h a0 b0 a1 b1 T : Int) (w : World) (hI : Sec.I ⟨r, h, a0, b0, a1, b1⟩) (h0 : 0 ≤ T) (h1 : T ≤ 60000) :
    Calls Try.prog 56 #[.agg #[.bool r, .int .i64 h, .int .i64 a0, .int .i64 b0, .int .i64 a1, .int .i64 b1], .int .i64 T, .bool false] w fun e w' =>
      e = .returned (.int .i64 (lowA ⟨r, h, a0, b0, a1, b1⟩ T)) ∧ B w w' := by
  have eT : IntKind.i64.wrap (T + 100) = T + 100 := wrapI (by omega) (by omega)
  have c1 := fun w => side_code r h a0 b0 a1 b1 T false w hI (by unfold I64; omega)
  have c2 := fun w => side_code r h a0 b0 a1 b1 (T + 100) false w hI (by unfold I64; omega)
  obtain ⟨q1, q2, q3, q4⟩ := sideOf_any ⟨r, h, a0, b0, a1, b1⟩ T false
  obtain ⟨q5, q6, q7, q8⟩ := sideOf_any ⟨r, h, a0, b0, a1, b1⟩ (T + 100) false
  have hX : lowA ⟨r, h, a0, b0, a1, b1⟩ T = areaM r (min (sideOf ⟨r, h, a0, b0, a1, b1⟩ T false).1 (sideOf ⟨r, h, a0, b0, a1, b1⟩ (T + 100) false).1) (min (sideOf ⟨r, h, a0, b0, a1, b1⟩ T false).2 (sideOf ⟨r, h, a0, b0, a1, b1⟩ (T + 100) false).2) false := rfl
  generalize lowA ⟨r, h, a0, b0, a1, b1⟩ T = X at *
  generalize (sideOf ⟨r, h, a0, b0, a1, b1⟩ T false).1 = p1 at *
  generalize (sideOf ⟨r, h, a0, b0, a1, b1⟩ T false).2 = p2 at *
  generalize (sideOf ⟨r, h, a0, b0, a1, b1⟩ (T + 100) false).1 = p3 at *
  generalize (sideOf ⟨r, h, a0, b0, a1, b1⟩ (T + 100) false).2 = p4 at *
  obtain ⟨m1, e1⟩ : ∃ m, min p1 p3 = m := ⟨_, rfl⟩
  obtain ⟨m2, e2⟩ : ∃ m, min p2 p4 = m := ⟨_, rfl⟩
  rw [e1, e2] at hX
  have c3 := fun w => carea_any r m1 m2 false (by omega) (by omega) (by omega) (by omega) w
  rw [← hX] at c3
  clear hX q1 q2 q3 q4 q5 q6 q7 q8 hI h0 h1
  go_enter Try.func56, Try.ntmps56
  go_wp2_with fail
  refine (c1 _).mono ?_
  rintro e w1 ⟨rfl, g⟩
  have z0 := g.keep (p := ⟨w.heap.size, 0, none⟩) (v := .bool r) (by simp [go_sem])
  have z1 := g.keep (p := ⟨w.heap.size, 1, none⟩) (v := .int .i64 h) (by simp [go_sem])
  have z2 := g.keep (p := ⟨w.heap.size, 2, none⟩) (v := .int .i64 a0) (by simp [go_sem])
  have z3 := g.keep (p := ⟨w.heap.size, 3, none⟩) (v := .int .i64 b0) (by simp [go_sem])
  have z4 := g.keep (p := ⟨w.heap.size, 4, none⟩) (v := .int .i64 a1) (by simp [go_sem])
  have z5 := g.keep (p := ⟨w.heap.size, 5, none⟩) (v := .int .i64 b1) (by simp [go_sem])
  replace g := ((B.refl w).alloc _ _).trans g
  go_wp2_with fail
  refine (c2 _).mono ?_
  rintro e w2 ⟨rfl, g2⟩
  replace z0 := g2.keep z0
  replace g := g.trans g2
  go_wp2_with fail
  refine (c3 _).mono ?_
  rintro e w3 ⟨rfl, g3⟩
  replace g := g.trans g3
  go_wp2
  go_ret
  exact ⟨rfl, g⟩

theorem cbound_high (r : Bool) (h a0 b0 a1 b1 T : Int) (w : World) (hI : Sec.I ⟨r, h, a0, b0, a1, b1⟩) (h0 : 0 ≤ T) (h1 : T ≤ 60000) :
    Calls Try.prog 56 #[.agg #[.bool r, .int .i64 h, .int .i64 a0, .int .i64 b0, .int .i64 a1, .int .i64 b1], .int .i64 T, .bool true] w fun e w' =>
      e = .returned (.int .i64 (highA ⟨r, h, a0, b0, a1, b1⟩ T)) ∧ B w w' := by
  have eT : IntKind.i64.wrap (T + 100) = T + 100 := wrapI (by omega) (by omega)
  have c1 := fun w => side_code r h a0 b0 a1 b1 T true w hI (by unfold I64; omega)
  have c2 := fun w => side_code r h a0 b0 a1 b1 (T + 100) true w hI (by unfold I64; omega)
  obtain ⟨q1, q2, q3, q4⟩ := sideOf_any ⟨r, h, a0, b0, a1, b1⟩ T true
  obtain ⟨q5, q6, q7, q8⟩ := sideOf_any ⟨r, h, a0, b0, a1, b1⟩ (T + 100) true
  have hX : highA ⟨r, h, a0, b0, a1, b1⟩ T = areaM r (max (sideOf ⟨r, h, a0, b0, a1, b1⟩ T true).1 (sideOf ⟨r, h, a0, b0, a1, b1⟩ (T + 100) true).1) (max (sideOf ⟨r, h, a0, b0, a1, b1⟩ T true).2 (sideOf ⟨r, h, a0, b0, a1, b1⟩ (T + 100) true).2) true := rfl
  generalize highA ⟨r, h, a0, b0, a1, b1⟩ T = X at *
  generalize (sideOf ⟨r, h, a0, b0, a1, b1⟩ T true).1 = p1 at *
  generalize (sideOf ⟨r, h, a0, b0, a1, b1⟩ T true).2 = p2 at *
  generalize (sideOf ⟨r, h, a0, b0, a1, b1⟩ (T + 100) true).1 = p3 at *
  generalize (sideOf ⟨r, h, a0, b0, a1, b1⟩ (T + 100) true).2 = p4 at *
  obtain ⟨m1, e1⟩ : ∃ m, max p1 p3 = m := ⟨_, rfl⟩
  obtain ⟨m2, e2⟩ : ∃ m, max p2 p4 = m := ⟨_, rfl⟩
  rw [e1, e2] at hX
  have c3 := fun w => carea_any r m1 m2 true (by omega) (by omega) (by omega) (by omega) w
  rw [← hX] at c3
  clear hX q1 q2 q3 q4 q5 q6 q7 q8 hI h0 h1
  go_enter Try.func56, Try.ntmps56
  go_wp2_with fail
  refine (c1 _).mono ?_
  rintro e w1 ⟨rfl, g⟩
  have z0 := g.keep (p := ⟨w.heap.size, 0, none⟩) (v := .bool r) (by simp [go_sem])
  have z1 := g.keep (p := ⟨w.heap.size, 1, none⟩) (v := .int .i64 h) (by simp [go_sem])
  have z2 := g.keep (p := ⟨w.heap.size, 2, none⟩) (v := .int .i64 a0) (by simp [go_sem])
  have z3 := g.keep (p := ⟨w.heap.size, 3, none⟩) (v := .int .i64 b0) (by simp [go_sem])
  have z4 := g.keep (p := ⟨w.heap.size, 4, none⟩) (v := .int .i64 a1) (by simp [go_sem])
  have z5 := g.keep (p := ⟨w.heap.size, 5, none⟩) (v := .int .i64 b1) (by simp [go_sem])
  replace g := ((B.refl w).alloc _ _).trans g
  go_wp2_with fail
  refine (c2 _).mono ?_
  rintro e w2 ⟨rfl, g2⟩
  replace z0 := g2.keep z0
  replace g := g.trans g2
  go_wp2_with fail
  refine (c3 _).mono ?_
  rintro e w3 ⟨rfl, g3⟩
  replace g := g.trans g3
  go_wp2
  go_ret
  exact ⟨rfl, g⟩

set_option maxHeartbeats 4000000 in
theorem cbounds_any (r : Bool) (h a0 b0 a1 b1 T : Int) (w : World) (hI : Sec.I ⟨r, h, a0, b0, a1, b1⟩) (h0 : 0 ≤ T) (h1 : T ≤ 60000) (hk : secOk ⟨r, h, a0, b0, a1, b1⟩ = true) :
    Calls Try.prog 36 #[.agg #[.bool r, .int .i64 h, .int .i64 a0, .int .i64 b0, .int .i64 a1, .int .i64 b1], .int .i64 T] w fun e w' =>
      e = .returned (.tuple #[.int .i64 (100 * lowA ⟨r, h, a0, b0, a1, b1⟩ T), .int .i64 (100 * highA ⟨r, h, a0, b0, a1, b1⟩ T)]) ∧ B w w' := by
  have c1 := fun w => cbound_low r h a0 b0 a1 b1 T w hI h0 h1
  have c2 := fun w => cbound_high r h a0 b0 a1 b1 T w hI h0 h1
  obtain ⟨x1, x2, x3, x4⟩ := slice_bounds hk T h0
  generalize lowA ⟨r, h, a0, b0, a1, b1⟩ T = X at *
  generalize highA ⟨r, h, a0, b0, a1, b1⟩ T = Y at *
  have e1 : IntKind.i64.wrap (100 * X) = 100 * X := wrapI (by omega) (by omega)
  have e2 : IntKind.i64.wrap (100 * Y) = 100 * Y := wrapI (by omega) (by omega)
  clear x1 x2 x3 x4 hI hk h0 h1
  go_enter Try.func36, Try.ntmps36
  go_wp2_with fail
  refine wp_region_noPanic ?_
  refine wp_region_seq (S := fun w' => w'.cell? ⟨w.heap.size, 0, none⟩ = some (.bool r) ∧ w'.cell? ⟨w.heap.size, 1, none⟩ = some (.int .i64 h) ∧ w'.cell? ⟨w.heap.size, 2, none⟩ = some (.int .i64 a0) ∧ w'.cell? ⟨w.heap.size, 3, none⟩ = some (.int .i64 b0) ∧ w'.cell? ⟨w.heap.size, 4, none⟩ = some (.int .i64 a1) ∧ w'.cell? ⟨w.heap.size, 5, none⟩ = some (.int .i64 b1) ∧ B w w') [(0, 0), (1, 0), (4, 0), (5, 0), (2, 2), (3, 0), (6, 2), (7, 0), (8, 0), (9, 0)] [0, 0, 3, 4, 0, 0, 52, 64, 79, 511] [0, 0, 3, 4, 0, 0, 48, 64, 8, 128] (by kernel_rfl) (by kernel_rfl) (fun _ _ _ _ _ h => h) ?_ (fun hH => ?_)
  · exact ⟨by simp [go_sem], by simp [go_sem], by simp [go_sem], by simp [go_sem], by simp [go_sem], by simp [go_sem], ((B.refl w).alloc _ _).drew⟩
  refine wpSeq_take (d := 6) (v := ?_) rfl rfl (by kernel_rfl) (fun w hS => ?_) ?_
  rotate_left
  · go_simp <;> with_reducible rfl
  dsimp only [List.set_cons_zero, List.set_cons_succ]
  refine wpSeq_take (d := 7) (v := ?_) rfl rfl (by kernel_rfl) (fun w hS => ?_) ?_
  rotate_left
  · go_simp <;> with_reducible rfl
  dsimp only [List.set_cons_zero, List.set_cons_succ]
  refine wpSeq_take (d := 10) (v := ?_) rfl rfl (by kernel_rfl) (fun w hS => ?_) ?_
  rotate_left
  · go_simp <;> with_reducible rfl
  dsimp only [List.set_cons_zero, List.set_cons_succ]
  refine wpSeq_take (d := 11) (v := ?_) rfl rfl (by kernel_rfl) (fun w hS => ?_) ?_
  rotate_left
  · go_simp <;> with_reducible rfl
  dsimp only [List.set_cons_zero, List.set_cons_succ]
  refine wpSeq_call rfl (by kernel_rfl) (fun K hK => ?_)
  go_simp
  (with_reducible refine (c1 _).mono ?_)
  rintro e w' ⟨rfl, hq⟩
  refine hK.out _ _ ?_ (fun hH => ?_)
  · exact ⟨hq.keep hH.1, hq.keep hH.2.1, hq.keep hH.2.2.1, hq.keep hH.2.2.2.1, hq.keep hH.2.2.2.2.1, hq.keep hH.2.2.2.2.2.1, hH.2.2.2.2.2.2.trans hq⟩
  clear hK
  refine wpSeq_take (d := 9) (v := ?_) rfl rfl (by kernel_rfl) (fun w hS => ?_) ?_
  rotate_left
  · go_simp <;> with_reducible rfl
  dsimp only [List.set_cons_zero, List.set_cons_succ]
  refine wpSeq_call rfl (by kernel_rfl) (fun K hK => ?_)
  go_simp
  (with_reducible refine (c2 _).mono ?_)
  rintro e w' ⟨rfl, hq⟩
  refine hK.out _ _ ?_ (fun hH => ?_)
  · exact ⟨hq.keep hH.1, hq.keep hH.2.1, hq.keep hH.2.2.1, hq.keep hH.2.2.2.1, hq.keep hH.2.2.2.2.1, hq.keep hH.2.2.2.2.2.1, hH.2.2.2.2.2.2.trans hq⟩
  clear hK
  refine wpSeq_take (d := 13) (v := ?_) rfl rfl (by kernel_rfl) (fun w hS => ?_) ?_
  rotate_left
  · go_simp <;> with_reducible rfl
  dsimp only [List.set_cons_zero, List.set_cons_succ]
  refine wpSeq_take (d := 4) (v := ?_) rfl rfl (by kernel_rfl) (fun w hS => ?_) ?_
  rotate_left
  · go_simp <;> with_reducible rfl
  dsimp only [List.set_cons_zero, List.set_cons_succ]
  refine wpSeq_take (d := 5) (v := ?_) rfl rfl (by kernel_rfl) (fun w hS => ?_) ?_
  rotate_left
  · go_simp <;> with_reducible rfl
  dsimp only [List.set_cons_zero, List.set_cons_succ]
  refine wpSeq_done ?_
  refine NoPanic.normal ?_
  go_wp2
  go_ret2
  exact ⟨rfl, hH.2.2.2.2.2.2⟩

/-- The sum ahead of a slice, of a row of sums. -/
theorem below_any (f : Nat → Int) (hf : f 0 = 0) (a : Addr) (n c : Nat) (h1 : 1 ≤ n) (h2 : n ≤ 600) (i : Int) (w : World) (hx : ∀ k, k < n → w.cell? (a.add k) = some (.int .i64 (f (k + 1)))) :
    Calls Try.prog 52 #[.slice (some a) n c, .int .i64 i] w fun e w' => e = .returned (.int .i64 (f (nearI n i))) ∧ B w w' := by
  obtain ⟨m, e1⟩ : ∃ m, min i (n : Int) = m := ⟨_, rfl⟩
  by_cases hi : i ≤ 0
  · have hm : decide (m ≤ 0) = true := decide_eq_true (by omega)
    have hn : nearI n i = 0 := by unfold nearI; omega
    rw [hn, hf]
    clear hx hn
    go_enter Try.func52, Try.ntmps52
    go_wp2
    go_ret
    exact ⟨rfl, B.refl _⟩
  · have hm : decide (m ≤ 0) = false := decide_eq_false (by omega)
    obtain ⟨k, hk⟩ : ∃ k : Nat, m = (k : Int) + 1 := ⟨(m - 1).toNat, by omega⟩
    have hn : nearI n i = k + 1 := by unfold nearI; omega
    have hkn : k < n := by omega
    have e2 : IntKind.i64.wrap (m - 1) = (k : Int) := by rw [show m - 1 = (k : Int) by omega]; exact wrapI (by omega) (by omega)
    have hkI : (k : Int) < (n : Int) := by omega
    have hc := hx k hkn
    rw [hn]
    generalize f (k + 1) = X at *
    clear hx hn hk hi
    go_enter Try.func52, Try.ntmps52
    go_wp2
    go_ret
    exact ⟨rfl, B.refl _⟩
end Go.Proofs.Ytkiepmfknbbeaaa
