/-
  Layer 2: the walk of SpanBack.
-/
import Derived.Test.YtehohogpnmokjaaL2a
import Derived.Test.YtehohogpnmokjaaReg
namespace Go.Proofs.Ytehohogpnmokjaa
open Go.RowKit

set_option maxHeartbeats 4000000 in
theorem back_law (a b n m : Int) (ha : (Lit.int .i32 a).wf = true) (hb : (Lit.int .i32 b).wf = true) (hn : (Lit.int .u16 n).wf = true) (hm : (Lit.int .u16 m).wf = true) (w : World) :
    Calls Try.prog 5 #[.int .i32 a, .int .i32 b, .int .u16 n, .int .u16 m] w fun e w' => e = .returned (.bool true) ∧ Grown w w' := by
  obtain ⟨a1, a2⟩ := i32_range ha
  obtain ⟨b1, b2⟩ := i32_range hb
  obtain ⟨n1, n2⟩ := u16_range hn
  obtain ⟨m1, m2⟩ := u16_range hm
  obtain ⟨sh, e1⟩ : ∃ x, a + n = x := ⟨_, rfl⟩
  obtain ⟨th, e2⟩ : ∃ x, b + m = x := ⟨_, rfl⟩
  obtain ⟨pl, e3⟩ : ∃ x, a + b = x := ⟨_, rfl⟩
  obtain ⟨ph, e4⟩ : ∃ x, sh + th = x := ⟨_, rfl⟩
  obtain ⟨ql, e5⟩ : ∃ x, pl - th = x := ⟨_, rfl⟩
  obtain ⟨qh, e6⟩ : ∃ x, ph - b = x := ⟨_, rfl⟩
  obtain ⟨wl, e7⟩ : ∃ x, a - m = x := ⟨_, rfl⟩
  obtain ⟨wh, e8⟩ : ∃ x, sh + m = x := ⟨_, rfl⟩
  have i1 : I64 a := by unfold I64; omega
  have i2 : I64 sh := by unfold I64; omega
  have i3 : I64 b := by unfold I64; omega
  have i4 : I64 th := by unfold I64; omega
  have i5 : I64 m := by unfold I64; omega
  have i6 : I64 pl := by unfold I64; omega
  have i7 : I64 ph := by unfold I64; omega
  have i8 : I64 ql := by unfold I64; omega
  have i9 : I64 qh := by unfold I64; omega
  have i10 : I64 wl := by unfold I64; omega
  have i11 : I64 wh := by unfold I64; omega
  have c1 := fun w => sadd_any a sh b th i1 i2 i3 i4 w
  have c2 := fun w => ssub_any pl ph b th i6 i7 i3 i4 w
  have c3 := fun w => swide_any a sh m i1 i2 i5 w
  have c4 := fun w => join_any a sh a sh w
  have c5 := fun w => least_any a sh a w
  rw [decide_eq_true (show a ≤ sh by omega), decide_eq_true (show b ≤ th by omega), Bool.and_true, e3, e4, spV_yes _ i6 i7, spV_yes _ i6 i7, spE_yes i6 i7] at c1
  rw [decide_eq_true (show pl ≤ ph by omega), decide_eq_true (show b ≤ th by omega), Bool.and_true, e5, e6, spV_yes _ i8 i9, spV_yes _ i8 i9, spE_yes i8 i9] at c2
  rw [decide_eq_true (show a ≤ sh by omega), decide_eq_true (show 0 ≤ m by omega), Bool.and_true, e7, e8, spV_yes _ i10 i11, spV_yes _ i10 i11, spE_yes i10 i11] at c3
  rw [Int.min_self, Int.max_self] at c4
  rw [Int.max_self, show max sh a = sh by omega] at c5
  have t1 : decide (ql ≤ a) = true := decide_eq_true (by omega)
  have t2 : decide (sh ≤ qh) = true := decide_eq_true (by omega)
  have x1 : IntKind.i64.wrap (qh - ql) = n + 2 * m := by rw [IntKind.wrap_i64]; omega
  have x2 : IntKind.i64.wrap (sh - a) = n := by rw [IntKind.wrap_i64]; omega
  have x3 : IntKind.i64.wrap (2 * m) = 2 * m := by rw [IntKind.wrap_i64]; omega
  have x4 : IntKind.i64.wrap (n + 2 * m) = n + 2 * m := by rw [IntKind.wrap_i64]; omega
  have x5 : IntKind.i64.wrap (wh - wl) = n + 2 * m := by rw [IntKind.wrap_i64]; omega
  have x6 : IntKind.i64.wrap m = m := by rw [IntKind.wrap_i64]; omega
  clear ha hb hn hm i1 i2 i3 i4 i5 i6 i7 i8 i9 i10 i11 e3 e4 e5 e6 e7 e8
  go_enter Try.func5, Try.ntmps5
  go_wp2_with fail
  refine (known2_any _).mono ?_
  rintro e w1 ⟨rfl, h⟩
  replace h : Q w w1 := by first | exact h | exact ((Q.refl w).alloc _ _).trans h | exact (((Q.refl w).alloc _ _).alloc _ _).trans h | exact ((((Q.refl w).alloc _ _).alloc _ _).alloc _ _).trans h | exact (((((Q.refl w).alloc _ _).alloc _ _).alloc _ _).alloc _ _).trans h
  have g := h
  clear h
  go_wp2_with fail
  refine (c1 _).mono ?_
  rintro e w2 ⟨rfl, h⟩
  have s0 := h.keep (p := ⟨w1.heap.size, 0, none⟩) (v := .int .i64 a) (by simp [go_sem])
  have s1 := h.keep (p := ⟨w1.heap.size, 1, none⟩) (v := .int .i64 sh) (by simp [go_sem])
  have t0 := h.keep (p := ⟨w1.heap.size + 1, 0, none⟩) (v := .int .i64 b) (by simp [go_sem])
  have t1 := h.keep (p := ⟨w1.heap.size + 1, 1, none⟩) (v := .int .i64 th) (by simp [go_sem])
  replace h : Q w1 w2 := by first | exact h | exact ((Q.refl w1).alloc _ _).trans h | exact (((Q.refl w1).alloc _ _).alloc _ _).trans h | exact ((((Q.refl w1).alloc _ _).alloc _ _).alloc _ _).trans h | exact (((((Q.refl w1).alloc _ _).alloc _ _).alloc _ _).alloc _ _).trans h
  have sz : w1.heap.size < w2.heap.size := World.block_lt_of_cell? _ _ s0
  have tz : w1.heap.size + 1 < w2.heap.size := World.block_lt_of_cell? _ _ t0
  replace g := g.trans h
  clear h
  go_wp2_with fail
  refine (c2 _).mono ?_
  rintro e w3 ⟨rfl, h⟩
  have p0 := h.keep (p := ⟨w2.heap.size, 0, none⟩) (v := .int .i64 pl) (by simp [go_sem])
  have p1 := h.keep (p := ⟨w2.heap.size, 1, none⟩) (v := .int .i64 ph) (by simp [go_sem])
  replace h : Q w2 w3 := by first | exact h | exact ((Q.refl w2).alloc _ _).trans h | exact (((Q.refl w2).alloc _ _).alloc _ _).trans h | exact ((((Q.refl w2).alloc _ _).alloc _ _).alloc _ _).trans h | exact (((((Q.refl w2).alloc _ _).alloc _ _).alloc _ _).alloc _ _).trans h
  replace s0 := h.keep s0
  replace s1 := h.keep s1
  replace t0 := h.keep t0
  replace t1 := h.keep t1
  replace sz : w1.heap.size < w3.heap.size := World.block_lt_of_cell? _ _ s0
  replace tz : w1.heap.size + 1 < w3.heap.size := World.block_lt_of_cell? _ _ t0
  have pz : w2.heap.size < w3.heap.size := World.block_lt_of_cell? _ _ p0
  replace g := g.trans h
  clear h
  go_wp2_with fail
  refine (c3 _).mono ?_
  rintro e w4 ⟨rfl, h⟩
  have q0 := h.keep (p := ⟨w3.heap.size, 0, none⟩) (v := .int .i64 ql) (by simp [go_sem])
  have q1 := h.keep (p := ⟨w3.heap.size, 1, none⟩) (v := .int .i64 qh) (by simp [go_sem])
  replace h : Q w3 w4 := by first | exact h | exact ((Q.refl w3).alloc _ _).trans h | exact (((Q.refl w3).alloc _ _).alloc _ _).trans h | exact ((((Q.refl w3).alloc _ _).alloc _ _).alloc _ _).trans h | exact (((((Q.refl w3).alloc _ _).alloc _ _).alloc _ _).alloc _ _).trans h
  replace s0 := h.keep s0
  replace s1 := h.keep s1
  replace t0 := h.keep t0
  replace t1 := h.keep t1
  replace p0 := h.keep p0
  replace p1 := h.keep p1
  replace sz : w1.heap.size < w4.heap.size := World.block_lt_of_cell? _ _ s0
  replace tz : w1.heap.size + 1 < w4.heap.size := World.block_lt_of_cell? _ _ t0
  replace pz : w2.heap.size < w4.heap.size := World.block_lt_of_cell? _ _ p0
  have qz : w3.heap.size < w4.heap.size := World.block_lt_of_cell? _ _ q0
  replace g := g.trans h
  clear h
  clear c1 c2 c3
  go_wp2_with fail
  refine wp_region_noPanic ?_
  refine wp_region_seq (S := fun w' => w'.cell? ⟨w1.heap.size, 0, none⟩ = some (.int .i64 a) ∧ w'.cell? ⟨w1.heap.size, 1, none⟩ = some (.int .i64 sh) ∧ w'.cell? ⟨w1.heap.size + 1, 0, none⟩ = some (.int .i64 b) ∧ w'.cell? ⟨w1.heap.size + 1, 1, none⟩ = some (.int .i64 th) ∧ w'.cell? ⟨w2.heap.size, 0, none⟩ = some (.int .i64 pl) ∧ w'.cell? ⟨w2.heap.size, 1, none⟩ = some (.int .i64 ph) ∧ w'.cell? ⟨w3.heap.size, 0, none⟩ = some (.int .i64 ql) ∧ w'.cell? ⟨w3.heap.size, 1, none⟩ = some (.int .i64 qh) ∧ w'.cell? ⟨w4.heap.size, 0, none⟩ = some (.int .i64 wl) ∧ w'.cell? ⟨w4.heap.size, 1, none⟩ = some (.int .i64 wh) ∧ Q w w') [(0, 0), (1, 0), (2, 0), (3, 0), (4, 0), (5, 0), (6, 0), (7, 0), (8, 0), (9, 0), (10, 0), (11, 0), (12, 0), (13, 0), (14, 0), (15, 0), (16, 0), (17, 0), (18, 0), (19, 0), (20, 0), (21, 0), (22, 0), (23, 0), (24, 0), (25, 0), (26, 0), (27, 0), (28, 0), (29, 0), (30, 0), (31, 0), (32, 0), (33, 0), (34, 0), (35, 0), (36, 0), (37, 0), (38, 0), (39, 0), (40, 0), (41, 0), (42, 0), (43, 0), (44, 0), (45, 0), (46, 0), (47, 0), (48, 0), (49, 0), (50, 0), (51, 0), (52, 0), (53, 0), (54, 0), (55, 0), (56, 0), (57, 0), (58, 0), (59, 0), (60, 0), (62, 0), (61, 2), (63, 0), (64, 0), (65, 0), (66, 0), (67, 0), (68, 0), (70, 0), (69, 2), (71, 0), (72, 0), (73, 0)] [0, 1, 2, 4, 12, 20, 36, 64, 192, 320, 576, 1024, 3072, 1024, 9216, 21504, 33792, 66560, 131072, 393216, 131072, 1179648, 2752512, 4325376, 8519680, 16777216, 50331648, 16777216, 150994944, 352321536, 16777216, 1090519040, 16777216, 4311744512, 10754195456, 16777216, 34376515584, 68736253952, 154635599872, 275431555072, 549772591104, 1099528404992, 2199023255552, 6597069766656, 2199023255552, 19791209299968, 46179488366592, 2199023255552, 142936511610880, 2199023255552, 565148976676864, 1409573906808832, 2199023255552, 4505798650626048, 9009398277996544, 20268397346422784, 36101364786397184, 72059793061183488, 144117387099111424, 288230376151711744, 288230376151711744, 2017612633061982208, 288230376151711744, 7205759403792793600, 9511602413006487552, 20752587082923245568, 36893488147419103232, 36893488147419103232, 184467440737095516160, 405828369621610135552, 36893488147419103232, 1807780919223536058368, 2398076729582241710080, 9444732965739290427391] [0, 1, 2, 4, 12, 20, 32, 64, 192, 320, 512, 1024, 3072, 1024, 9216, 21504, 33792, 65536, 131072, 393216, 131072, 1179648, 2752512, 4325376, 8388608, 16777216, 50331648, 16777216, 150994944, 352321536, 16777216, 1090519040, 16777216, 4311744512, 10754195456, 16777216, 34376515584, 68736253952, 154635599872, 275431555072, 549772591104, 1099511627776, 2199023255552, 6597069766656, 2199023255552, 19791209299968, 46179488366592, 2199023255552, 142936511610880, 2199023255552, 565148976676864, 1409573906808832, 2199023255552, 4505798650626048, 9009398277996544, 20268397346422784, 36101364786397184, 72059793061183488, 144115188075855872, 288230376151711744, 288230376151711744, 2017612633061982208, 288230376151711744, 7205759403792793600, 9511602413006487552, 18446744073709551616, 36893488147419103232, 36893488147419103232, 184467440737095516160, 405828369621610135552, 36893488147419103232, 1807780919223536058368, 2398076729582241710080, 4722366482869645213696] (by kernel_rfl) (by kernel_rfl) (fun _ _ _ _ _ h => h) ?_ (fun hH => ?_)
  · exact ⟨by simp [go_sem, *], by simp [go_sem, *], by simp [go_sem, *], by simp [go_sem, *], by simp [go_sem, *], by simp [go_sem, *], by simp [go_sem, *], by simp [go_sem, *], by simp [go_sem, *], by simp [go_sem, *], by first | exact (g.alloc _ _).drew | exact g.drew⟩
  refine wpSeq_take (d := 54) (v := ?_) rfl rfl (by kernel_rfl) (fun w hS => ?_) ?_
  rotate_left
  · go_simp <;> with_reducible rfl
  dsimp only [List.set_cons_zero, List.set_cons_succ]
  refine wpSeq_take (d := 55) (v := ?_) rfl rfl (by kernel_rfl) (fun w hS => ?_) ?_
  rotate_left
  · go_simp <;> with_reducible rfl
  dsimp only [List.set_cons_zero, List.set_cons_succ]
  refine wpSeq_take (d := 56) (v := ?_) rfl rfl (by kernel_rfl) (fun w hS => ?_) ?_
  rotate_left
  · go_simp <;> with_reducible rfl
  dsimp only [List.set_cons_zero, List.set_cons_succ]
  refine wpSeq_take (d := 57) (v := ?_) rfl rfl (by kernel_rfl) (fun w hS => ?_) ?_
  rotate_left
  · go_simp <;> with_reducible rfl
  dsimp only [List.set_cons_zero, List.set_cons_succ]
  refine wpSeq_take (d := 58) (v := ?_) rfl rfl (by kernel_rfl) (fun w hS => ?_) ?_
  rotate_left
  · go_simp <;> with_reducible rfl
  dsimp only [List.set_cons_zero, List.set_cons_succ]
  refine wpSeq_take (d := 59) (v := ?_) rfl rfl (by kernel_rfl) (fun w hS => ?_) ?_
  rotate_left
  · go_simp <;> with_reducible rfl
  dsimp only [List.set_cons_zero, List.set_cons_succ]
  refine wpSeq_take (d := 60) (v := ?_) rfl rfl (by kernel_rfl) (fun w hS => ?_) ?_
  rotate_left
  · go_simp <;> with_reducible rfl
  dsimp only [List.set_cons_zero, List.set_cons_succ]
  refine wpSeq_take (d := 61) (v := ?_) rfl rfl (by kernel_rfl) (fun w hS => ?_) ?_
  rotate_left
  · go_simp <;> with_reducible rfl
  dsimp only [List.set_cons_zero, List.set_cons_succ]
  refine wpSeq_take (d := 62) (v := ?_) rfl rfl (by kernel_rfl) (fun w hS => ?_) ?_
  rotate_left
  · go_simp <;> with_reducible rfl
  dsimp only [List.set_cons_zero, List.set_cons_succ]
  refine wpSeq_take (d := 63) (v := ?_) rfl rfl (by kernel_rfl) (fun w hS => ?_) ?_
  rotate_left
  · go_simp <;> with_reducible rfl
  dsimp only [List.set_cons_zero, List.set_cons_succ]
  refine wpSeq_take (d := 64) (v := ?_) rfl rfl (by kernel_rfl) (fun w hS => ?_) ?_
  rotate_left
  · go_simp <;> with_reducible rfl
  dsimp only [List.set_cons_zero, List.set_cons_succ]
  refine wpSeq_take (d := 65) (v := ?_) rfl rfl (by kernel_rfl) (fun w hS => ?_) ?_
  rotate_left
  · go_simp <;> with_reducible rfl
  dsimp only [List.set_cons_zero, List.set_cons_succ]
  refine wpSeq_take (d := 66) (v := ?_) rfl rfl (by kernel_rfl) (fun w hS => ?_) ?_
  rotate_left
  · go_simp <;> with_reducible rfl
  dsimp only [List.set_cons_zero, List.set_cons_succ]
  refine wpSeq_take (d := 67) (v := ?_) rfl rfl (by kernel_rfl) (fun w hS => ?_) ?_
  rotate_left
  · go_simp <;> with_reducible rfl
  dsimp only [List.set_cons_zero, List.set_cons_succ]
  refine wpSeq_take (d := 68) (v := ?_) rfl rfl (by kernel_rfl) (fun w hS => ?_) ?_
  rotate_left
  · go_simp <;> with_reducible rfl
  dsimp only [List.set_cons_zero, List.set_cons_succ]
  refine wpSeq_take (d := 69) (v := ?_) rfl rfl (by kernel_rfl) (fun w hS => ?_) ?_
  rotate_left
  · go_simp <;> with_reducible rfl
  dsimp only [List.set_cons_zero, List.set_cons_succ]
  refine wpSeq_take (d := 70) (v := ?_) rfl rfl (by kernel_rfl) (fun w hS => ?_) ?_
  rotate_left
  · go_simp <;> with_reducible rfl
  dsimp only [List.set_cons_zero, List.set_cons_succ]
  refine wpSeq_take (d := 71) (v := ?_) rfl rfl (by kernel_rfl) (fun w hS => ?_) ?_
  rotate_left
  · go_simp <;> with_reducible rfl
  dsimp only [List.set_cons_zero, List.set_cons_succ]
  refine wpSeq_take (d := 72) (v := ?_) rfl rfl (by kernel_rfl) (fun w hS => ?_) ?_
  rotate_left
  · go_simp <;> with_reducible rfl
  dsimp only [List.set_cons_zero, List.set_cons_succ]
  refine wpSeq_take (d := 73) (v := ?_) rfl rfl (by kernel_rfl) (fun w hS => ?_) ?_
  rotate_left
  · go_simp <;> with_reducible rfl
  dsimp only [List.set_cons_zero, List.set_cons_succ]
  refine wpSeq_take (d := 74) (v := ?_) rfl rfl (by kernel_rfl) (fun w hS => ?_) ?_
  rotate_left
  · go_simp <;> with_reducible rfl
  dsimp only [List.set_cons_zero, List.set_cons_succ]
  refine wpSeq_take (d := 75) (v := ?_) rfl rfl (by kernel_rfl) (fun w hS => ?_) ?_
  rotate_left
  · go_simp <;> with_reducible rfl
  dsimp only [List.set_cons_zero, List.set_cons_succ]
  refine wpSeq_take (d := 76) (v := ?_) rfl rfl (by kernel_rfl) (fun w hS => ?_) ?_
  rotate_left
  · go_simp <;> with_reducible rfl
  dsimp only [List.set_cons_zero, List.set_cons_succ]
  refine wpSeq_take (d := 77) (v := ?_) rfl rfl (by kernel_rfl) (fun w hS => ?_) ?_
  rotate_left
  · go_simp <;> with_reducible rfl
  dsimp only [List.set_cons_zero, List.set_cons_succ]
  refine wpSeq_take (d := 78) (v := ?_) rfl rfl (by kernel_rfl) (fun w hS => ?_) ?_
  rotate_left
  · go_simp <;> with_reducible rfl
  dsimp only [List.set_cons_zero, List.set_cons_succ]
  refine wpSeq_take (d := 79) (v := ?_) rfl rfl (by kernel_rfl) (fun w hS => ?_) ?_
  rotate_left
  · go_simp <;> with_reducible rfl
  dsimp only [List.set_cons_zero, List.set_cons_succ]
  refine wpSeq_take (d := 80) (v := ?_) rfl rfl (by kernel_rfl) (fun w hS => ?_) ?_
  rotate_left
  · go_simp <;> with_reducible rfl
  dsimp only [List.set_cons_zero, List.set_cons_succ]
  refine wpSeq_take (d := 81) (v := ?_) rfl rfl (by kernel_rfl) (fun w hS => ?_) ?_
  rotate_left
  · go_simp <;> with_reducible rfl
  dsimp only [List.set_cons_zero, List.set_cons_succ]
  refine wpSeq_take (d := 82) (v := ?_) rfl rfl (by kernel_rfl) (fun w hS => ?_) ?_
  rotate_left
  · go_simp <;> with_reducible rfl
  dsimp only [List.set_cons_zero, List.set_cons_succ]
  refine wpSeq_take (d := 83) (v := ?_) rfl rfl (by kernel_rfl) (fun w hS => ?_) ?_
  rotate_left
  · go_simp <;> with_reducible rfl
  dsimp only [List.set_cons_zero, List.set_cons_succ]
  refine wpSeq_take (d := 84) (v := ?_) rfl rfl (by kernel_rfl) (fun w hS => ?_) ?_
  rotate_left
  · go_simp <;> with_reducible rfl
  dsimp only [List.set_cons_zero, List.set_cons_succ]
  refine wpSeq_take (d := 85) (v := ?_) rfl rfl (by kernel_rfl) (fun w hS => ?_) ?_
  rotate_left
  · go_simp <;> with_reducible rfl
  dsimp only [List.set_cons_zero, List.set_cons_succ]
  refine wpSeq_take (d := 86) (v := ?_) rfl rfl (by kernel_rfl) (fun w hS => ?_) ?_
  rotate_left
  · go_simp <;> with_reducible rfl
  dsimp only [List.set_cons_zero, List.set_cons_succ]
  refine wpSeq_take (d := 87) (v := ?_) rfl rfl (by kernel_rfl) (fun w hS => ?_) ?_
  rotate_left
  · go_simp <;> with_reducible rfl
  dsimp only [List.set_cons_zero, List.set_cons_succ]
  refine wpSeq_take (d := 88) (v := ?_) rfl rfl (by kernel_rfl) (fun w hS => ?_) ?_
  rotate_left
  · go_simp <;> with_reducible rfl
  dsimp only [List.set_cons_zero, List.set_cons_succ]
  refine wpSeq_take (d := 89) (v := ?_) rfl rfl (by kernel_rfl) (fun w hS => ?_) ?_
  rotate_left
  · go_simp <;> with_reducible rfl
  dsimp only [List.set_cons_zero, List.set_cons_succ]
  refine wpSeq_take (d := 90) (v := ?_) rfl rfl (by kernel_rfl) (fun w hS => ?_) ?_
  rotate_left
  · go_simp <;> with_reducible rfl
  dsimp only [List.set_cons_zero, List.set_cons_succ]
  refine wpSeq_take (d := 91) (v := ?_) rfl rfl (by kernel_rfl) (fun w hS => ?_) ?_
  rotate_left
  · go_simp <;> with_reducible rfl
  dsimp only [List.set_cons_zero, List.set_cons_succ]
  refine wpSeq_take (d := 92) (v := ?_) rfl rfl (by kernel_rfl) (fun w hS => ?_) ?_
  rotate_left
  · go_simp <;> with_reducible rfl
  dsimp only [List.set_cons_zero, List.set_cons_succ]
  refine wpSeq_take (d := 93) (v := ?_) rfl rfl (by kernel_rfl) (fun w hS => ?_) ?_
  rotate_left
  · go_simp <;> with_reducible rfl
  dsimp only [List.set_cons_zero, List.set_cons_succ]
  refine wpSeq_take (d := 94) (v := ?_) rfl rfl (by kernel_rfl) (fun w hS => ?_) ?_
  rotate_left
  · go_simp <;> with_reducible rfl
  dsimp only [List.set_cons_zero, List.set_cons_succ]
  refine wpSeq_take (d := 95) (v := ?_) rfl rfl (by kernel_rfl) (fun w hS => ?_) ?_
  rotate_left
  · go_simp <;> with_reducible rfl
  dsimp only [List.set_cons_zero, List.set_cons_succ]
  refine wpSeq_take (d := 96) (v := ?_) rfl rfl (by kernel_rfl) (fun w hS => ?_) ?_
  rotate_left
  · go_simp <;> with_reducible rfl
  dsimp only [List.set_cons_zero, List.set_cons_succ]
  refine wpSeq_take (d := 97) (v := ?_) rfl rfl (by kernel_rfl) (fun w hS => ?_) ?_
  rotate_left
  · go_simp <;> with_reducible rfl
  dsimp only [List.set_cons_zero, List.set_cons_succ]
  refine wpSeq_take (d := 98) (v := ?_) rfl rfl (by kernel_rfl) (fun w hS => ?_) ?_
  rotate_left
  · go_simp <;> with_reducible rfl
  dsimp only [List.set_cons_zero, List.set_cons_succ]
  refine wpSeq_take (d := 99) (v := ?_) rfl rfl (by kernel_rfl) (fun w hS => ?_) ?_
  rotate_left
  · go_simp <;> with_reducible rfl
  dsimp only [List.set_cons_zero, List.set_cons_succ]
  refine wpSeq_take (d := 100) (v := ?_) rfl rfl (by kernel_rfl) (fun w hS => ?_) ?_
  rotate_left
  · go_simp <;> with_reducible rfl
  dsimp only [List.set_cons_zero, List.set_cons_succ]
  refine wpSeq_take (d := 101) (v := ?_) rfl rfl (by kernel_rfl) (fun w hS => ?_) ?_
  rotate_left
  · go_simp <;> with_reducible rfl
  dsimp only [List.set_cons_zero, List.set_cons_succ]
  refine wpSeq_take (d := 102) (v := ?_) rfl rfl (by kernel_rfl) (fun w hS => ?_) ?_
  rotate_left
  · go_simp <;> with_reducible rfl
  dsimp only [List.set_cons_zero, List.set_cons_succ]
  refine wpSeq_take (d := 103) (v := ?_) rfl rfl (by kernel_rfl) (fun w hS => ?_) ?_
  rotate_left
  · go_simp <;> with_reducible rfl
  dsimp only [List.set_cons_zero, List.set_cons_succ]
  refine wpSeq_take (d := 104) (v := ?_) rfl rfl (by kernel_rfl) (fun w hS => ?_) ?_
  rotate_left
  · go_simp <;> with_reducible rfl
  dsimp only [List.set_cons_zero, List.set_cons_succ]
  refine wpSeq_take (d := 105) (v := ?_) rfl rfl (by kernel_rfl) (fun w hS => ?_) ?_
  rotate_left
  · go_simp <;> with_reducible rfl
  dsimp only [List.set_cons_zero, List.set_cons_succ]
  refine wpSeq_take (d := 106) (v := ?_) rfl rfl (by kernel_rfl) (fun w hS => ?_) ?_
  rotate_left
  · go_simp <;> with_reducible rfl
  dsimp only [List.set_cons_zero, List.set_cons_succ]
  refine wpSeq_take (d := 107) (v := ?_) rfl rfl (by kernel_rfl) (fun w hS => ?_) ?_
  rotate_left
  · go_simp <;> with_reducible rfl
  dsimp only [List.set_cons_zero, List.set_cons_succ]
  refine wpSeq_take (d := 108) (v := ?_) rfl rfl (by kernel_rfl) (fun w hS => ?_) ?_
  rotate_left
  · go_simp <;> with_reducible rfl
  dsimp only [List.set_cons_zero, List.set_cons_succ]
  refine wpSeq_take (d := 109) (v := ?_) rfl rfl (by kernel_rfl) (fun w hS => ?_) ?_
  rotate_left
  · go_simp <;> with_reducible rfl
  dsimp only [List.set_cons_zero, List.set_cons_succ]
  refine wpSeq_take (d := 110) (v := ?_) rfl rfl (by kernel_rfl) (fun w hS => ?_) ?_
  rotate_left
  · go_simp <;> with_reducible rfl
  dsimp only [List.set_cons_zero, List.set_cons_succ]
  refine wpSeq_take (d := 111) (v := ?_) rfl rfl (by kernel_rfl) (fun w hS => ?_) ?_
  rotate_left
  · go_simp <;> with_reducible rfl
  dsimp only [List.set_cons_zero, List.set_cons_succ]
  refine wpSeq_take (d := 112) (v := ?_) rfl rfl (by kernel_rfl) (fun w hS => ?_) ?_
  rotate_left
  · go_simp <;> with_reducible rfl
  dsimp only [List.set_cons_zero, List.set_cons_succ]
  refine wpSeq_take (d := 113) (v := ?_) rfl rfl (by kernel_rfl) (fun w hS => ?_) ?_
  rotate_left
  · go_simp <;> with_reducible rfl
  dsimp only [List.set_cons_zero, List.set_cons_succ]
  refine wpSeq_take (d := 114) (v := ?_) rfl rfl (by kernel_rfl) (fun w hS => ?_) ?_
  rotate_left
  · go_simp <;> with_reducible rfl
  dsimp only [List.set_cons_zero, List.set_cons_succ]
  refine wpSeq_take (d := 116) (v := ?_) rfl rfl (by kernel_rfl) (fun w hS => ?_) ?_
  rotate_left
  · go_simp <;> with_reducible rfl
  dsimp only [List.set_cons_zero, List.set_cons_succ]
  refine wpSeq_call rfl (by kernel_rfl) (fun K hK => ?_)
  go_simp
  (with_reducible refine (c4 _).mono ?_)
  rintro e w' ⟨rfl, hq⟩
  refine hK.out _ _ ?_ (fun hH => ?_)
  · exact ⟨hq.keep hH.1, hq.keep hH.2.1, hq.keep hH.2.2.1, hq.keep hH.2.2.2.1, hq.keep hH.2.2.2.2.1, hq.keep hH.2.2.2.2.2.1, hq.keep hH.2.2.2.2.2.2.1, hq.keep hH.2.2.2.2.2.2.2.1, hq.keep hH.2.2.2.2.2.2.2.2.1, hq.keep hH.2.2.2.2.2.2.2.2.2.1, hH.2.2.2.2.2.2.2.2.2.2.trans hq⟩
  clear hK
  refine wpSeq_take (d := 117) (v := ?_) rfl rfl (by kernel_rfl) (fun w hS => ?_) ?_
  rotate_left
  · go_simp <;> with_reducible rfl
  dsimp only [List.set_cons_zero, List.set_cons_succ]
  refine wpSeq_take (d := 118) (v := ?_) rfl rfl (by kernel_rfl) (fun w hS => ?_) ?_
  rotate_left
  · go_simp <;> with_reducible rfl
  dsimp only [List.set_cons_zero, List.set_cons_succ]
  refine wpSeq_take (d := 119) (v := ?_) rfl rfl (by kernel_rfl) (fun w hS => ?_) ?_
  rotate_left
  · go_simp <;> with_reducible rfl
  dsimp only [List.set_cons_zero, List.set_cons_succ]
  refine wpSeq_take (d := 120) (v := ?_) rfl rfl (by kernel_rfl) (fun w hS => ?_) ?_
  rotate_left
  · go_simp <;> with_reducible rfl
  dsimp only [List.set_cons_zero, List.set_cons_succ]
  refine wpSeq_take (d := 121) (v := ?_) rfl rfl (by kernel_rfl) (fun w hS => ?_) ?_
  rotate_left
  · go_simp <;> with_reducible rfl
  dsimp only [List.set_cons_zero, List.set_cons_succ]
  refine wpSeq_take (d := 122) (v := ?_) rfl rfl (by kernel_rfl) (fun w hS => ?_) ?_
  rotate_left
  · go_simp <;> with_reducible rfl
  dsimp only [List.set_cons_zero, List.set_cons_succ]
  refine wpSeq_take (d := 124) (v := ?_) rfl rfl (by kernel_rfl) (fun w hS => ?_) ?_
  rotate_left
  · go_simp <;> with_reducible rfl
  dsimp only [List.set_cons_zero, List.set_cons_succ]
  refine wpSeq_call rfl (by kernel_rfl) (fun K hK => ?_)
  go_simp
  (with_reducible refine (c5 _).mono ?_)
  rintro e w' ⟨rfl, hq⟩
  refine hK.out _ _ ?_ (fun hH => ?_)
  · exact ⟨hq.keep hH.1, hq.keep hH.2.1, hq.keep hH.2.2.1, hq.keep hH.2.2.2.1, hq.keep hH.2.2.2.2.1, hq.keep hH.2.2.2.2.2.1, hq.keep hH.2.2.2.2.2.2.1, hq.keep hH.2.2.2.2.2.2.2.1, hq.keep hH.2.2.2.2.2.2.2.2.1, hq.keep hH.2.2.2.2.2.2.2.2.2.1, hH.2.2.2.2.2.2.2.2.2.2.trans hq⟩
  clear hK
  refine wpSeq_take (d := 125) (v := ?_) rfl rfl (by kernel_rfl) (fun w hS => ?_) ?_
  rotate_left
  · go_simp <;> with_reducible rfl
  dsimp only [List.set_cons_zero, List.set_cons_succ]
  refine wpSeq_take (d := 126) (v := ?_) rfl rfl (by kernel_rfl) (fun w hS => ?_) ?_
  rotate_left
  · go_simp <;> with_reducible rfl
  dsimp only [List.set_cons_zero, List.set_cons_succ]
  refine wpSeq_take (d := 8) (v := ?_) rfl rfl (by kernel_rfl) (fun w hS => ?_) ?_
  rotate_left
  · go_simp <;> with_reducible rfl
  dsimp only [List.set_cons_zero, List.set_cons_succ]
  refine wpSeq_done ?_
  refine NoPanic.normal ?_

  go_wp2
  go_ret
  exact ⟨rfl, (hH.2.2.2.2.2.2.2.2.2.2).grown⟩
end Go.Proofs.Ytehohogpnmokjaa
