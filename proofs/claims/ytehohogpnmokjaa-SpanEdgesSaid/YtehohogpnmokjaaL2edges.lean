/-
  Layer 2: the walk of SpanEdges.
-/
import Derived.Test.YtehohogpnmokjaaL2a
import Derived.Test.YtehohogpnmokjaaSref
import Derived.Test.YtehohogpnmokjaaReg
namespace Go.Proofs.Ytehohogpnmokjaa
open Go.RowKit

/-- The numbers of the edges. -/
def edge : Nat → Int
  | 0 => -9223372036854775808 | 1 => -9223372036854775807 | 2 => -1 | 3 => 0 | 4 => 1 | 5 => 9223372036854775806 | _ => 9223372036854775807
theorem edge_cell (w : World) (t : TypeId) (i : Nat) (h : i < 7) : (w.alloc (.cells #[.int .i64 (-9223372036854775808), .int .i64 (-9223372036854775807), .int .i64 (-1), .int .i64 0, .int .i64 1, .int .i64 9223372036854775806, .int .i64 9223372036854775807] t)).cell? ⟨w.heap.size, i, none⟩ = some (.int .i64 (edge i)) := by
  match i, h with
  | 0, _ => simp [go_sem, edge]
  | 1, _ => simp [go_sem, edge]
  | 2, _ => simp [go_sem, edge]
  | 3, _ => simp [go_sem, edge]
  | 4, _ => simp [go_sem, edge]
  | 5, _ => simp [go_sem, edge]
  | 6, _ => simp [go_sem, edge]
/-- The places that a byte picks. -/
theorem picks (k : Int) (h : 0 ≤ k) (h' : k ≤ 255) : ∃ (kd : Int) (i0 i1 : Nat), k.tmod 7 = (i0 : Int) ∧ IntKind.u8.wrap (k.tdiv 7) = kd ∧ kd.tmod 7 = (i1 : Int) ∧ (i0 : Int) < 7 ∧ (i1 : Int) < 7 ∧ (0 : Int) ≤ (i0 : Int) ∧ (0 : Int) ≤ (i1 : Int) := by
  refine ⟨k / 7, (k % 7).toNat, (k / 7 % 7).toNat, ?_, ?_, ?_, ?_, ?_, ?_, ?_⟩
  · rw [Int.tmod_eq_emod_of_nonneg h]; omega
  · rw [Int.tdiv_eq_ediv_of_nonneg h]; simp [IntKind.wrap, IntKind.signed, IntKind.bits]; omega
  · rw [Int.tmod_eq_emod_of_nonneg (by omega)]; omega
  all_goals omega
theorem edge_fits (i : Nat) : I64 (edge i) := by
  unfold edge
  split <;> decide

set_option maxHeartbeats 4000000 in
theorem edges2_law (k j : Int) (hk : (Lit.int .u8 k).wf = true) (hj : (Lit.int .u8 j).wf = true) (w : World) :
    Calls Try.prog 6 #[.int .u8 k, .int .u8 j] w fun e w' => e = .returned (.bool true) ∧ Q w w' := by
  obtain ⟨k1, k2⟩ := u8_range2 hk
  obtain ⟨j1, j2⟩ := u8_range2 hj
  clear hk hj
  obtain ⟨kd, i0, i1, hi0, hkd, hi1, l0, l1, p0, p1⟩ := picks k k1 k2
  obtain ⟨jd, n0, n1, hn0, hjd, hn1, m0, m1, r0, r1⟩ := picks j j1 j2
  have e0 := edge_fits i0
  have e1 := edge_fits i1
  have e2 := edge_fits n0
  have e3 := edge_fits n1
  go_enter Try.func6, Try.ntmps6
  go_wp2_with fail
  refine (known2_any _).mono ?_
  rintro e w1 ⟨rfl, h⟩
  replace h : Q w w1 := by first | exact h | exact ((Q.refl w).alloc _ _).trans h | exact (((Q.refl w).alloc _ _).alloc _ _).trans h | exact ((((Q.refl w).alloc _ _).alloc _ _).alloc _ _).trans h | exact (((((Q.refl w).alloc _ _).alloc _ _).alloc _ _).alloc _ _).trans h | exact ((Q.refl w).drewN _).trans h | exact (((Q.refl w).alloc _ _).drewN _).trans h | exact ((((Q.refl w).alloc _ _).alloc _ _).drewN _).trans h | exact (((((Q.refl w).alloc _ _).alloc _ _).alloc _ _).drewN _).trans h | exact ((((((Q.refl w).alloc _ _).alloc _ _).alloc _ _).alloc _ _).drewN _).trans h | exact (((Q.refl w).drewN _).drewN _).trans h | exact ((((Q.refl w).alloc _ _).drewN _).drewN _).trans h | exact (((((Q.refl w).alloc _ _).alloc _ _).drewN _).drewN _).trans h | exact ((((((Q.refl w).alloc _ _).alloc _ _).alloc _ _).drewN _).drewN _).trans h | exact (((((((Q.refl w).alloc _ _).alloc _ _).alloc _ _).alloc _ _).drewN _).drewN _).trans h
  have g := h
  clear h
  go_wp2_with fail
  have q0 := edge_cell w1 2 i0 (by omega)
  have q1 := edge_cell w1 2 i1 (by omega)
  have q2 := edge_cell w1 2 n0 (by omega)
  have q3 := edge_cell w1 2 n1 (by omega)
  replace g := g.alloc #[.int .i64 (-9223372036854775808), .int .i64 (-9223372036854775807), .int .i64 (-1), .int .i64 0, .int .i64 1, .int .i64 9223372036854775806, .int .i64 9223372036854775807] 2
  generalize w1.alloc (.cells #[.int .i64 (-9223372036854775808), .int .i64 (-9223372036854775807), .int .i64 (-1), .int .i64 0, .int .i64 1, .int .i64 9223372036854775806, .int .i64 9223372036854775807] 2) = W at *
  generalize w1.heap.size = b at *
  generalize edge i0 = sl at *
  generalize edge i1 = sh at *
  generalize edge n0 = tl at *
  generalize edge n1 = th at *
  have hb : b < W.heap.size := World.block_lt_of_cell? _ _ q0
  have c1 := fun w => sadd_any sl sh tl th e0 e1 e2 e3 w
  have c2 := fun w => rsadd_any sl sh tl th e0 e1 e2 e3 w
  have c3 := fun w => ssub_any sl sh tl th e0 e1 e2 e3 w
  have c4 := fun w => rssub_any sl sh tl th e0 e1 e2 e3 w
  have c5 := fun w => right_any sl sh w
  generalize spV (decide (sl ≤ sh) && decide (tl ≤ th)) (sl + tl) (sh + th) (sl + tl) = X at *
  generalize spV (decide (sl ≤ sh) && decide (tl ≤ th)) (sl + tl) (sh + th) (sh + th) = Y at *
  generalize spE (decide (sl ≤ sh) && decide (tl ≤ th)) (sl + tl) (sh + th) = Z at *
  generalize spV (decide (sl ≤ sh) && decide (tl ≤ th)) (sl - th) (sh - tl) (sl - th) = X2 at *
  generalize spV (decide (sl ≤ sh) && decide (tl ≤ th)) (sl - th) (sh - tl) (sh - tl) = Y2 at *
  generalize spE (decide (sl ≤ sh) && decide (tl ≤ th)) (sl - th) (sh - tl) = Z2 at *
  clear e0 e1 e2 e3
  refine wp_region_noPanic ?_
  refine wp_region_seq (S := fun w' => w'.cell? ⟨b, i0, none⟩ = some (.int .i64 sl) ∧ w'.cell? ⟨b, i1, none⟩ = some (.int .i64 sh)) [(0, 0), (1, 0), (2, 0), (3, 0), (4, 0), (5, 0), (6, 0), (7, 0), (8, 0), (9, 0), (10, 0), (11, 0), (12, 2), (13, 2)] [0, 0, 2, 5, 8, 0, 0, 64, 128, 288, 512, 1040, 0, 8191] [0, 0, 2, 5, 8, 0, 0, 64, 128, 288, 512, 1040, 0, 6144] (by kernel_rfl) (by kernel_rfl) (fun _ _ _ _ _ h => h) ?_ (fun hH => ?_)
  · exact ⟨by simp [go_sem, *], by simp [go_sem, *]⟩
  refine wpSeq_take (d := 19) (v := ?_) rfl rfl (by kernel_rfl) (fun w hS => ?_) ?_
  rotate_left
  · go_simp <;> with_reducible rfl
  dsimp only [List.set_cons_zero, List.set_cons_succ]
  refine wpSeq_take (d := 20) (v := ?_) rfl rfl (by kernel_rfl) (fun w hS => ?_) ?_
  rotate_left
  · go_simp <;> with_reducible rfl
  dsimp only [List.set_cons_zero, List.set_cons_succ]
  refine wpSeq_take (d := 21) (v := ?_) rfl rfl (by kernel_rfl) (fun w hS => ?_) ?_
  rotate_left
  · go_simp <;> with_reducible rfl
  dsimp only [List.set_cons_zero, List.set_cons_succ]
  refine wpSeq_take (d := 22) (v := ?_) rfl rfl (by kernel_rfl) (fun w hS => ?_) ?_
  rotate_left
  · go_simp <;> with_reducible rfl
  dsimp only [List.set_cons_zero, List.set_cons_succ]
  refine wpSeq_take (d := 23) (v := ?_) rfl rfl (by kernel_rfl) (fun w hS => ?_) ?_
  rotate_left
  · go_simp <;> with_reducible rfl
  dsimp only [List.set_cons_zero, List.set_cons_succ]
  refine wpSeq_take (d := 24) (v := ?_) rfl rfl (by kernel_rfl) (fun w hS => ?_) ?_
  rotate_left
  · go_simp <;> with_reducible rfl
  dsimp only [List.set_cons_zero, List.set_cons_succ]
  refine wpSeq_take (d := 25) (v := ?_) rfl rfl (by kernel_rfl) (fun w hS => ?_) ?_
  rotate_left
  · go_simp <;> with_reducible rfl
  dsimp only [List.set_cons_zero, List.set_cons_succ]
  refine wpSeq_take (d := 26) (v := ?_) rfl rfl (by kernel_rfl) (fun w hS => ?_) ?_
  rotate_left
  · go_simp <;> with_reducible rfl
  dsimp only [List.set_cons_zero, List.set_cons_succ]
  refine wpSeq_take (d := 27) (v := ?_) rfl rfl (by kernel_rfl) (fun w hS => ?_) ?_
  rotate_left
  · go_simp <;> with_reducible rfl
  dsimp only [List.set_cons_zero, List.set_cons_succ]
  refine wpSeq_take (d := 28) (v := ?_) rfl rfl (by kernel_rfl) (fun w hS => ?_) ?_
  rotate_left
  · go_simp <;> with_reducible rfl
  dsimp only [List.set_cons_zero, List.set_cons_succ]
  refine wpSeq_take (d := 29) (v := ?_) rfl rfl (by kernel_rfl) (fun w hS => ?_) ?_
  rotate_left
  · go_simp <;> with_reducible rfl
  dsimp only [List.set_cons_zero, List.set_cons_succ]
  refine wpSeq_take (d := 30) (v := ?_) rfl rfl (by kernel_rfl) (fun w hS => ?_) ?_
  rotate_left
  · go_simp <;> with_reducible rfl
  dsimp only [List.set_cons_zero, List.set_cons_succ]
  refine wpSeq_call rfl (by kernel_rfl) (fun K hK => ?_)
  go_simp
  refine hK.out _ _ ?_ (fun hH => ?_)
  · first | exact ⟨((Q.refl _).alloc _ _).keep hH.1, ((Q.refl _).alloc _ _).keep hH.2⟩ | (simp [go_sem, *])
  clear hK
  refine wpSeq_call rfl (by kernel_rfl) (fun K hK => ?_)
  go_simp
  refine hK.out _ _ ?_ (fun hH => ?_)
  · first | exact ⟨((Q.refl _).alloc _ _).keep hH.1, ((Q.refl _).alloc _ _).keep hH.2⟩ | (simp [go_sem, *])
  clear hK
  refine wpSeq_done ?_
  refine NoPanic.normal ?_

  clear hH
  go_wp2_with fail
  refine wp_region_noPanic ?_
  refine wp_region_seq (S := fun w' => w'.cell? ⟨b, n0, none⟩ = some (.int .i64 tl) ∧ w'.cell? ⟨b, n1, none⟩ = some (.int .i64 th)) [(0, 0), (1, 0), (2, 0), (3, 0), (4, 0), (5, 0), (6, 0), (7, 0), (8, 0), (9, 0), (10, 0), (11, 0), (12, 2), (13, 2)] [0, 0, 2, 5, 8, 0, 0, 64, 128, 288, 512, 1040, 0, 8191] [0, 0, 2, 5, 8, 0, 0, 64, 128, 288, 512, 1040, 0, 6144] (by kernel_rfl) (by kernel_rfl) (fun _ _ _ _ _ h => h) ?_ (fun hH => ?_)
  · exact ⟨by simp [go_sem, *], by simp [go_sem, *]⟩
  refine wpSeq_take (d := 31) (v := ?_) rfl rfl (by kernel_rfl) (fun w hS => ?_) ?_
  rotate_left
  · go_simp <;> with_reducible rfl
  dsimp only [List.set_cons_zero, List.set_cons_succ]
  refine wpSeq_take (d := 32) (v := ?_) rfl rfl (by kernel_rfl) (fun w hS => ?_) ?_
  rotate_left
  · go_simp <;> with_reducible rfl
  dsimp only [List.set_cons_zero, List.set_cons_succ]
  refine wpSeq_take (d := 33) (v := ?_) rfl rfl (by kernel_rfl) (fun w hS => ?_) ?_
  rotate_left
  · go_simp <;> with_reducible rfl
  dsimp only [List.set_cons_zero, List.set_cons_succ]
  refine wpSeq_take (d := 34) (v := ?_) rfl rfl (by kernel_rfl) (fun w hS => ?_) ?_
  rotate_left
  · go_simp <;> with_reducible rfl
  dsimp only [List.set_cons_zero, List.set_cons_succ]
  refine wpSeq_take (d := 35) (v := ?_) rfl rfl (by kernel_rfl) (fun w hS => ?_) ?_
  rotate_left
  · go_simp <;> with_reducible rfl
  dsimp only [List.set_cons_zero, List.set_cons_succ]
  refine wpSeq_take (d := 36) (v := ?_) rfl rfl (by kernel_rfl) (fun w hS => ?_) ?_
  rotate_left
  · go_simp <;> with_reducible rfl
  dsimp only [List.set_cons_zero, List.set_cons_succ]
  refine wpSeq_take (d := 37) (v := ?_) rfl rfl (by kernel_rfl) (fun w hS => ?_) ?_
  rotate_left
  · go_simp <;> with_reducible rfl
  dsimp only [List.set_cons_zero, List.set_cons_succ]
  refine wpSeq_take (d := 38) (v := ?_) rfl rfl (by kernel_rfl) (fun w hS => ?_) ?_
  rotate_left
  · go_simp <;> with_reducible rfl
  dsimp only [List.set_cons_zero, List.set_cons_succ]
  refine wpSeq_take (d := 39) (v := ?_) rfl rfl (by kernel_rfl) (fun w hS => ?_) ?_
  rotate_left
  · go_simp <;> with_reducible rfl
  dsimp only [List.set_cons_zero, List.set_cons_succ]
  refine wpSeq_take (d := 40) (v := ?_) rfl rfl (by kernel_rfl) (fun w hS => ?_) ?_
  rotate_left
  · go_simp <;> with_reducible rfl
  dsimp only [List.set_cons_zero, List.set_cons_succ]
  refine wpSeq_take (d := 41) (v := ?_) rfl rfl (by kernel_rfl) (fun w hS => ?_) ?_
  rotate_left
  · go_simp <;> with_reducible rfl
  dsimp only [List.set_cons_zero, List.set_cons_succ]
  refine wpSeq_take (d := 42) (v := ?_) rfl rfl (by kernel_rfl) (fun w hS => ?_) ?_
  rotate_left
  · go_simp <;> with_reducible rfl
  dsimp only [List.set_cons_zero, List.set_cons_succ]
  refine wpSeq_call rfl (by kernel_rfl) (fun K hK => ?_)
  go_simp
  refine hK.out _ _ ?_ (fun hH => ?_)
  · first | exact ⟨((Q.refl _).alloc _ _).keep hH.1, ((Q.refl _).alloc _ _).keep hH.2⟩ | (simp [go_sem, *])
  clear hK
  refine wpSeq_call rfl (by kernel_rfl) (fun K hK => ?_)
  go_simp
  refine hK.out _ _ ?_ (fun hH => ?_)
  · first | exact ⟨((Q.refl _).alloc _ _).keep hH.1, ((Q.refl _).alloc _ _).keep hH.2⟩ | (simp [go_sem, *])
  clear hK
  refine wpSeq_done ?_
  refine NoPanic.normal ?_

  clear hH
  go_wp2_with fail
  refine (c1 _).mono ?_
  rintro e w2 ⟨rfl, h⟩
  have s0 := h.keep (p := ⟨W.heap.size, 0, none⟩) (v := .int .i64 sl) (by simp [go_sem])
  have s1 := h.keep (p := ⟨W.heap.size, 1, none⟩) (v := .int .i64 sh) (by simp [go_sem])
  have t0 := h.keep (p := ⟨W.heap.size + 1, 0, none⟩) (v := .int .i64 tl) (by simp [go_sem])
  have t1 := h.keep (p := ⟨W.heap.size + 1, 1, none⟩) (v := .int .i64 th) (by simp [go_sem])
  replace h : Q W w2 := by first | exact h | exact ((Q.refl W).alloc _ _).trans h | exact (((Q.refl W).alloc _ _).alloc _ _).trans h | exact ((((Q.refl W).alloc _ _).alloc _ _).alloc _ _).trans h | exact (((((Q.refl W).alloc _ _).alloc _ _).alloc _ _).alloc _ _).trans h | exact ((Q.refl W).drewN _).trans h | exact (((Q.refl W).alloc _ _).drewN _).trans h | exact ((((Q.refl W).alloc _ _).alloc _ _).drewN _).trans h | exact (((((Q.refl W).alloc _ _).alloc _ _).alloc _ _).drewN _).trans h | exact ((((((Q.refl W).alloc _ _).alloc _ _).alloc _ _).alloc _ _).drewN _).trans h | exact (((Q.refl W).drewN _).drewN _).trans h | exact ((((Q.refl W).alloc _ _).drewN _).drewN _).trans h | exact (((((Q.refl W).alloc _ _).alloc _ _).drewN _).drewN _).trans h | exact ((((((Q.refl W).alloc _ _).alloc _ _).alloc _ _).drewN _).drewN _).trans h | exact (((((((Q.refl W).alloc _ _).alloc _ _).alloc _ _).alloc _ _).drewN _).drewN _).trans h
  have sz : W.heap.size < w2.heap.size := World.block_lt_of_cell? _ _ s0
  have tz : W.heap.size + 1 < w2.heap.size := World.block_lt_of_cell? _ _ t0
  replace g := g.trans h
  clear h
  go_wp2_with fail
  refine (c2 _).mono ?_
  rintro e w3 ⟨rfl, h⟩
  have x0 := h.keep (p := ⟨w2.heap.size, 0, none⟩) (v := .int .i64 X) (by simp [go_sem])
  have x1 := h.keep (p := ⟨w2.heap.size, 1, none⟩) (v := .int .i64 Y) (by simp [go_sem])
  replace h : Q w2 w3 := by first | exact h | exact ((Q.refl w2).alloc _ _).trans h | exact (((Q.refl w2).alloc _ _).alloc _ _).trans h | exact ((((Q.refl w2).alloc _ _).alloc _ _).alloc _ _).trans h | exact (((((Q.refl w2).alloc _ _).alloc _ _).alloc _ _).alloc _ _).trans h | exact ((Q.refl w2).drewN _).trans h | exact (((Q.refl w2).alloc _ _).drewN _).trans h | exact ((((Q.refl w2).alloc _ _).alloc _ _).drewN _).trans h | exact (((((Q.refl w2).alloc _ _).alloc _ _).alloc _ _).drewN _).trans h | exact ((((((Q.refl w2).alloc _ _).alloc _ _).alloc _ _).alloc _ _).drewN _).trans h | exact (((Q.refl w2).drewN _).drewN _).trans h | exact ((((Q.refl w2).alloc _ _).drewN _).drewN _).trans h | exact (((((Q.refl w2).alloc _ _).alloc _ _).drewN _).drewN _).trans h | exact ((((((Q.refl w2).alloc _ _).alloc _ _).alloc _ _).drewN _).drewN _).trans h | exact (((((((Q.refl w2).alloc _ _).alloc _ _).alloc _ _).alloc _ _).drewN _).drewN _).trans h
  replace s0 := h.keep s0
  replace s1 := h.keep s1
  replace t0 := h.keep t0
  replace t1 := h.keep t1
  replace sz : W.heap.size < w3.heap.size := World.block_lt_of_cell? _ _ s0
  replace tz : W.heap.size + 1 < w3.heap.size := World.block_lt_of_cell? _ _ t0
  have xz : w2.heap.size < w3.heap.size := World.block_lt_of_cell? _ _ x0
  replace g := g.trans h
  clear h
  go_wp2_with fail
  refine (c3 _).mono ?_
  rintro e w4 ⟨rfl, h⟩
  have y0 := h.keep (p := ⟨w3.heap.size, 0, none⟩) (v := .int .i64 X) (by simp [go_sem])
  have y1 := h.keep (p := ⟨w3.heap.size, 1, none⟩) (v := .int .i64 Y) (by simp [go_sem])
  replace h : Q w3 w4 := by first | exact h | exact ((Q.refl w3).alloc _ _).trans h | exact (((Q.refl w3).alloc _ _).alloc _ _).trans h | exact ((((Q.refl w3).alloc _ _).alloc _ _).alloc _ _).trans h | exact (((((Q.refl w3).alloc _ _).alloc _ _).alloc _ _).alloc _ _).trans h | exact ((Q.refl w3).drewN _).trans h | exact (((Q.refl w3).alloc _ _).drewN _).trans h | exact ((((Q.refl w3).alloc _ _).alloc _ _).drewN _).trans h | exact (((((Q.refl w3).alloc _ _).alloc _ _).alloc _ _).drewN _).trans h | exact ((((((Q.refl w3).alloc _ _).alloc _ _).alloc _ _).alloc _ _).drewN _).trans h | exact (((Q.refl w3).drewN _).drewN _).trans h | exact ((((Q.refl w3).alloc _ _).drewN _).drewN _).trans h | exact (((((Q.refl w3).alloc _ _).alloc _ _).drewN _).drewN _).trans h | exact ((((((Q.refl w3).alloc _ _).alloc _ _).alloc _ _).drewN _).drewN _).trans h | exact (((((((Q.refl w3).alloc _ _).alloc _ _).alloc _ _).alloc _ _).drewN _).drewN _).trans h
  replace s0 := h.keep s0
  replace s1 := h.keep s1
  replace t0 := h.keep t0
  replace t1 := h.keep t1
  replace x0 := h.keep x0
  replace x1 := h.keep x1
  replace sz : W.heap.size < w4.heap.size := World.block_lt_of_cell? _ _ s0
  replace tz : W.heap.size + 1 < w4.heap.size := World.block_lt_of_cell? _ _ t0
  replace xz : w2.heap.size < w4.heap.size := World.block_lt_of_cell? _ _ x0
  have yz : w3.heap.size < w4.heap.size := World.block_lt_of_cell? _ _ y0
  replace g := g.trans h
  clear h
  go_wp2_with fail
  refine (c4 _).mono ?_
  rintro e w5 ⟨rfl, h⟩
  have z0 := h.keep (p := ⟨w4.heap.size, 0, none⟩) (v := .int .i64 X2) (by simp [go_sem])
  have z1 := h.keep (p := ⟨w4.heap.size, 1, none⟩) (v := .int .i64 Y2) (by simp [go_sem])
  replace h : Q w4 w5 := by first | exact h | exact ((Q.refl w4).alloc _ _).trans h | exact (((Q.refl w4).alloc _ _).alloc _ _).trans h | exact ((((Q.refl w4).alloc _ _).alloc _ _).alloc _ _).trans h | exact (((((Q.refl w4).alloc _ _).alloc _ _).alloc _ _).alloc _ _).trans h | exact ((Q.refl w4).drewN _).trans h | exact (((Q.refl w4).alloc _ _).drewN _).trans h | exact ((((Q.refl w4).alloc _ _).alloc _ _).drewN _).trans h | exact (((((Q.refl w4).alloc _ _).alloc _ _).alloc _ _).drewN _).trans h | exact ((((((Q.refl w4).alloc _ _).alloc _ _).alloc _ _).alloc _ _).drewN _).trans h | exact (((Q.refl w4).drewN _).drewN _).trans h | exact ((((Q.refl w4).alloc _ _).drewN _).drewN _).trans h | exact (((((Q.refl w4).alloc _ _).alloc _ _).drewN _).drewN _).trans h | exact ((((((Q.refl w4).alloc _ _).alloc _ _).alloc _ _).drewN _).drewN _).trans h | exact (((((((Q.refl w4).alloc _ _).alloc _ _).alloc _ _).alloc _ _).drewN _).drewN _).trans h
  replace s0 := h.keep s0
  replace s1 := h.keep s1
  replace t0 := h.keep t0
  replace t1 := h.keep t1
  replace x0 := h.keep x0
  replace x1 := h.keep x1
  replace y0 := h.keep y0
  replace y1 := h.keep y1
  replace sz : W.heap.size < w5.heap.size := World.block_lt_of_cell? _ _ s0
  replace tz : W.heap.size + 1 < w5.heap.size := World.block_lt_of_cell? _ _ t0
  replace xz : w2.heap.size < w5.heap.size := World.block_lt_of_cell? _ _ x0
  replace yz : w3.heap.size < w5.heap.size := World.block_lt_of_cell? _ _ y0
  have zz : w4.heap.size < w5.heap.size := World.block_lt_of_cell? _ _ z0
  replace g := g.trans h
  clear h
  go_wp2_with fail
  refine wp_region_noPanic ?_
  refine wp_region_seq (S := fun w' => w'.cell? ⟨W.heap.size, 0, none⟩ = some (.int .i64 sl) ∧ w'.cell? ⟨W.heap.size, 1, none⟩ = some (.int .i64 sh) ∧ w'.cell? ⟨W.heap.size + 1, 0, none⟩ = some (.int .i64 tl) ∧ w'.cell? ⟨W.heap.size + 1, 1, none⟩ = some (.int .i64 th) ∧ w'.cell? ⟨w2.heap.size, 0, none⟩ = some (.int .i64 X) ∧ w'.cell? ⟨w2.heap.size, 1, none⟩ = some (.int .i64 Y) ∧ w'.cell? ⟨w3.heap.size, 0, none⟩ = some (.int .i64 X) ∧ w'.cell? ⟨w3.heap.size, 1, none⟩ = some (.int .i64 Y) ∧ w'.cell? ⟨w4.heap.size, 0, none⟩ = some (.int .i64 X2) ∧ w'.cell? ⟨w4.heap.size, 1, none⟩ = some (.int .i64 Y2) ∧ w'.cell? ⟨w5.heap.size, 0, none⟩ = some (.int .i64 X2) ∧ w'.cell? ⟨w5.heap.size, 1, none⟩ = some (.int .i64 Y2) ∧ Q w w') [(0, 0), (1, 0), (2, 0), (3, 0), (4, 0), (5, 0), (6, 0), (7, 0), (8, 0), (9, 0), (10, 0), (11, 0), (12, 0), (13, 0), (14, 0), (15, 0), (16, 0), (17, 0), (18, 0), (19, 0), (21, 0), (22, 0), (23, 0), (24, 0), (25, 0), (20, 2), (26, 0), (27, 0), (28, 0)] [0, 0, 3, 4, 8, 8, 56, 72, 136, 256, 256, 1792, 2304, 4352, 8192, 8192, 57344, 73728, 139264, 262144, 786432, 262144, 2359296, 262144, 8650752, 21233664, 34865152, 67371008, 268435455] [0, 0, 3, 4, 8, 8, 56, 72, 128, 256, 256, 1792, 2304, 4096, 8192, 8192, 57344, 73728, 131072, 262144, 786432, 262144, 2359296, 262144, 8650752, 21233664, 34865152, 67371008, 134217728] (by kernel_rfl) (by kernel_rfl) (fun _ _ _ _ _ h => h) ?_ (fun hH => ?_)
  · exact ⟨by simp [go_sem, *], by simp [go_sem, *], by simp [go_sem, *], by simp [go_sem, *], by simp [go_sem, *], by simp [go_sem, *], by simp [go_sem, *], by simp [go_sem, *], by simp [go_sem, *], by simp [go_sem, *], by simp [go_sem, *], by simp [go_sem, *], by first | exact (g.alloc _ _).drew | exact g.drew⟩
  refine wpSeq_take (d := 67) (v := ?_) rfl rfl (by kernel_rfl) (fun w hS => ?_) ?_
  rotate_left
  · go_simp <;> with_reducible rfl
  dsimp only [List.set_cons_zero, List.set_cons_succ]
  refine wpSeq_take (d := 68) (v := ?_) rfl rfl (by kernel_rfl) (fun w hS => ?_) ?_
  rotate_left
  · go_simp <;> with_reducible rfl
  dsimp only [List.set_cons_zero, List.set_cons_succ]
  refine wpSeq_take (d := 69) (v := ?_) rfl rfl (by kernel_rfl) (fun w hS => ?_) ?_
  rotate_left
  · go_simp <;> with_reducible rfl
  dsimp only [List.set_cons_zero, List.set_cons_succ]
  refine wpSeq_take (d := 70) (v := ?_) rfl rfl (by kernel_rfl) (fun w hS => ?_) ?_
  rotate_left
  · go_simp <;> with_reducible rfl
  dsimp only [List.set_cons_zero, List.set_cons_succ]
  refine wpSeq_take (d := 71) (v := ?_) rfl rfl (by kernel_rfl) (fun w hS => ?_) ?_
  rotate_left
  · go_simp <;> with_reducible rfl
  dsimp only [List.set_cons_zero, List.set_cons_succ]
  refine wpSeq_take (d := 72) (v := ?_) rfl rfl (by kernel_rfl) (fun w hS => ?_) ?_
  rotate_left
  · go_simp <;> with_reducible rfl
  dsimp only [List.set_cons_zero, List.set_cons_succ]
  refine wpSeq_take (d := 73) (v := ?_) rfl rfl (by kernel_rfl) (fun w hS => ?_) ?_
  rotate_left
  · go_simp <;> with_reducible rfl
  dsimp only [List.set_cons_zero, List.set_cons_succ]
  refine wpSeq_take (d := 74) (v := ?_) rfl rfl (by kernel_rfl) (fun w hS => ?_) ?_
  rotate_left
  · go_simp <;> with_reducible rfl
  dsimp only [List.set_cons_zero, List.set_cons_succ]
  refine wpSeq_take (d := 75) (v := ?_) rfl rfl (by kernel_rfl) (fun w hS => ?_) ?_
  rotate_left
  · go_simp <;> with_reducible rfl
  dsimp only [List.set_cons_zero, List.set_cons_succ]
  refine wpSeq_take (d := 76) (v := ?_) rfl rfl (by kernel_rfl) (fun w hS => ?_) ?_
  rotate_left
  · go_simp <;> with_reducible rfl
  dsimp only [List.set_cons_zero, List.set_cons_succ]
  refine wpSeq_take (d := 77) (v := ?_) rfl rfl (by kernel_rfl) (fun w hS => ?_) ?_
  rotate_left
  · go_simp <;> with_reducible rfl
  dsimp only [List.set_cons_zero, List.set_cons_succ]
  refine wpSeq_take (d := 78) (v := ?_) rfl rfl (by kernel_rfl) (fun w hS => ?_) ?_
  rotate_left
  · go_simp <;> with_reducible rfl
  dsimp only [List.set_cons_zero, List.set_cons_succ]
  refine wpSeq_take (d := 79) (v := ?_) rfl rfl (by kernel_rfl) (fun w hS => ?_) ?_
  rotate_left
  · go_simp <;> with_reducible rfl
  dsimp only [List.set_cons_zero, List.set_cons_succ]
  refine wpSeq_take (d := 80) (v := ?_) rfl rfl (by kernel_rfl) (fun w hS => ?_) ?_
  rotate_left
  · go_simp <;> with_reducible rfl
  dsimp only [List.set_cons_zero, List.set_cons_succ]
  refine wpSeq_take (d := 81) (v := ?_) rfl rfl (by kernel_rfl) (fun w hS => ?_) ?_
  rotate_left
  · go_simp <;> with_reducible rfl
  dsimp only [List.set_cons_zero, List.set_cons_succ]
  refine wpSeq_take (d := 82) (v := ?_) rfl rfl (by kernel_rfl) (fun w hS => ?_) ?_
  rotate_left
  · go_simp <;> with_reducible rfl
  dsimp only [List.set_cons_zero, List.set_cons_succ]
  refine wpSeq_take (d := 83) (v := ?_) rfl rfl (by kernel_rfl) (fun w hS => ?_) ?_
  rotate_left
  · go_simp <;> with_reducible rfl
  dsimp only [List.set_cons_zero, List.set_cons_succ]
  refine wpSeq_take (d := 84) (v := ?_) rfl rfl (by kernel_rfl) (fun w hS => ?_) ?_
  rotate_left
  · go_simp <;> with_reducible rfl
  dsimp only [List.set_cons_zero, List.set_cons_succ]
  refine wpSeq_take (d := 85) (v := ?_) rfl rfl (by kernel_rfl) (fun w hS => ?_) ?_
  rotate_left
  · go_simp <;> with_reducible rfl
  dsimp only [List.set_cons_zero, List.set_cons_succ]
  refine wpSeq_take (d := 86) (v := ?_) rfl rfl (by kernel_rfl) (fun w hS => ?_) ?_
  rotate_left
  · go_simp <;> with_reducible rfl
  dsimp only [List.set_cons_zero, List.set_cons_succ]
  refine wpSeq_take (d := 88) (v := ?_) rfl rfl (by kernel_rfl) (fun w hS => ?_) ?_
  rotate_left
  · go_simp <;> with_reducible rfl
  dsimp only [List.set_cons_zero, List.set_cons_succ]
  refine wpSeq_take (d := 89) (v := ?_) rfl rfl (by kernel_rfl) (fun w hS => ?_) ?_
  rotate_left
  · go_simp <;> with_reducible rfl
  dsimp only [List.set_cons_zero, List.set_cons_succ]
  refine wpSeq_take (d := 90) (v := ?_) rfl rfl (by kernel_rfl) (fun w hS => ?_) ?_
  rotate_left
  · go_simp <;> with_reducible rfl
  dsimp only [List.set_cons_zero, List.set_cons_succ]
  refine wpSeq_take (d := 91) (v := ?_) rfl rfl (by kernel_rfl) (fun w hS => ?_) ?_
  rotate_left
  · go_simp <;> with_reducible rfl
  dsimp only [List.set_cons_zero, List.set_cons_succ]
  refine wpSeq_take (d := 92) (v := ?_) rfl rfl (by kernel_rfl) (fun w hS => ?_) ?_
  rotate_left
  · go_simp <;> with_reducible rfl
  dsimp only [List.set_cons_zero, List.set_cons_succ]
  refine wpSeq_call rfl (by kernel_rfl) (fun K hK => ?_)
  go_simp
  (with_reducible refine (c5 _).mono ?_)
  rintro e w' ⟨rfl, hq⟩
  refine hK.out _ _ ?_ (fun hH => ?_)
  · exact ⟨hq.keep hH.1, hq.keep hH.2.1, hq.keep hH.2.2.1, hq.keep hH.2.2.2.1, hq.keep hH.2.2.2.2.1, hq.keep hH.2.2.2.2.2.1, hq.keep hH.2.2.2.2.2.2.1, hq.keep hH.2.2.2.2.2.2.2.1, hq.keep hH.2.2.2.2.2.2.2.2.1, hq.keep hH.2.2.2.2.2.2.2.2.2.1, hq.keep hH.2.2.2.2.2.2.2.2.2.2.1, hq.keep hH.2.2.2.2.2.2.2.2.2.2.2.1, hH.2.2.2.2.2.2.2.2.2.2.2.2.trans hq⟩
  clear hK
  refine wpSeq_take (d := 93) (v := ?_) rfl rfl (by kernel_rfl) (fun w hS => ?_) ?_
  rotate_left
  · go_simp <;> with_reducible rfl
  dsimp only [List.set_cons_zero, List.set_cons_succ]
  refine wpSeq_take (d := 94) (v := ?_) rfl rfl (by kernel_rfl) (fun w hS => ?_) ?_
  rotate_left
  · go_simp <;> with_reducible rfl
  dsimp only [List.set_cons_zero, List.set_cons_succ]
  refine wpSeq_take (d := 4) (v := ?_) rfl rfl (by kernel_rfl) (fun w hS => ?_) ?_
  rotate_left
  · go_simp <;> with_reducible rfl
  dsimp only [List.set_cons_zero, List.set_cons_succ]
  refine wpSeq_done ?_
  refine NoPanic.normal ?_

  go_wp2
  go_ret
  exact ⟨rfl, hH.2.2.2.2.2.2.2.2.2.2.2.2⟩
end Go.Proofs.Ytehohogpnmokjaa
