/-
  Layer 2: the walk of SpanHolds.
-/
import Derived.Test.YtehohogpnmokjaaL2a
import Derived.Deep.QuietTactic
import Derived.BigQuiet
namespace Go.Proofs.Ytehohogpnmokjaa
open Go.RowKit

theorem wrap_in {z : Int} (h1 : -9223372036854775808 ≤ z) (h2 : z ≤ 9223372036854775807) : IntKind.i64.wrap z = z := by
  rw [IntKind.wrap_i64]; omega
theorem rem_pick (x n : Int) (hn : 0 ≤ n ∧ n ≤ 65535) : ∃ ux n' rx : Int, IntKind.u32.wrap x = ux ∧ IntKind.i64.wrap ux = ux ∧ n + 1 = n' ∧ IntKind.i64.wrap (n + 1) = n' ∧ ux.tmod n' = rx ∧ ux % n' = rx ∧
    0 ≤ ux ∧ ux ≤ 4294967295 ∧ 1 ≤ n' ∧ n' ≤ 65536 ∧ 0 ≤ rx ∧ rx ≤ n ∧ IntKind.i64.wrap rx = rx ∧ IntKind.i64.wrap n = n := by
  have hu : 0 ≤ IntKind.u32.wrap x ∧ IntKind.u32.wrap x ≤ 4294967295 := by
    simp [IntKind.wrap, IntKind.signed, IntKind.bits]; omega
  obtain ⟨u1, u2⟩ := hu
  have h1 := Int.emod_nonneg (IntKind.u32.wrap x) (show n + 1 ≠ 0 by omega)
  have h2 := Int.emod_lt_of_pos (IntKind.u32.wrap x) (show 0 < n + 1 by omega)
  exact ⟨_, _, _, rfl, wrap_in (by omega) (by omega), rfl, wrap_in (by omega) (by omega), Int.tmod_eq_emod_of_nonneg u1, rfl, u1, u2, by omega, by omega, h1, by omega, wrap_in (by omega) (by omega), wrap_in (by omega) (by omega)⟩
theorem add_pick (a b : Int) (h1 : -9223372036854775808 ≤ a + b) (h2 : a + b ≤ 9223372036854775807) : ∃ s : Int, a + b = s ∧ IntKind.i64.wrap (a + b) = s := ⟨_, rfl, wrap_in h1 h2⟩
theorem sub_pick (a b : Int) (h1 : -9223372036854775808 ≤ a - b) (h2 : a - b ≤ 9223372036854775807) : ∃ s : Int, a - b = s ∧ IntKind.i64.wrap (a - b) = s := ⟨_, rfl, wrap_in h1 h2⟩

set_option maxHeartbeats 4000000 in
theorem holds_law (a b x y n m : Int) (ha : (Lit.int .i32 a).wf = true) (hb : (Lit.int .i32 b).wf = true) (hx : (Lit.int .i32 x).wf = true) (hy : (Lit.int .i32 y).wf = true) (hn : (Lit.int .u16 n).wf = true) (hm : (Lit.int .u16 m).wf = true) (w : World) :
    Calls Try.prog 4 #[.int .i32 a, .int .i32 b, .int .i32 x, .int .i32 y, .int .u16 n, .int .u16 m] w fun e w' => e = .returned (.bool true) ∧ Q w w' := by
  obtain ⟨ux, n', rx, r1, r2, r3, r4, r5, r6, r7, r8, r9, r10, q1, q2, r11, r12⟩ := rem_pick x n (u16_range hn)
  obtain ⟨uy, m', ry, t1, t2, t3, t4, t5, t6, t7, t8, t9, t10, q3, q4, t11, t12⟩ := rem_pick y m (u16_range hm)
  obtain ⟨a1, a2⟩ := i32_range ha
  obtain ⟨b1, b2⟩ := i32_range hb
  obtain ⟨x1, x2⟩ := i32_range hx
  obtain ⟨y1, y2⟩ := i32_range hy
  obtain ⟨n1, n2⟩ := u16_range hn
  obtain ⟨m1, m2⟩ := u16_range hm
  clear ha hb hx hy hn hm
  obtain ⟨sh, sh_e, sh_w⟩ := add_pick a n (by omega) (by omega)
  obtain ⟨th, th_e, th_w⟩ := add_pick b m (by omega) (by omega)
  obtain ⟨v, v_e, v_w⟩ := add_pick a rx (by omega) (by omega)
  obtain ⟨o, o_e, o_w⟩ := add_pick b ry (by omega) (by omega)
  obtain ⟨pl, pl_e, pl_w⟩ := add_pick a b (by omega) (by omega)
  obtain ⟨ph, ph_e, ph_w⟩ := add_pick sh th (by omega) (by omega)
  obtain ⟨ql, ql_e, ql_w⟩ := sub_pick a th (by omega) (by omega)
  obtain ⟨qh, qh_e, qh_w⟩ := sub_pick sh b (by omega) (by omega)
  obtain ⟨wl, wl_e, wl_w⟩ := sub_pick a m (by omega) (by omega)
  obtain ⟨wh, wh_e, wh_w⟩ := add_pick sh m (by omega) (by omega)
  obtain ⟨vs, vs_e, vs_w⟩ := add_pick v o (by omega) (by omega)
  obtain ⟨vd, vd_e, vd_w⟩ := sub_pick v o (by omega) (by omega)
  obtain ⟨vl, vl_e, vl_w⟩ := sub_pick v m (by omega) (by omega)
  obtain ⟨vh, vh_e, vh_w⟩ := add_pick v m (by omega) (by omega)
  have i_a : I64 a := by unfold I64; omega
  have i_sh : I64 sh := by unfold I64; omega
  have i_b : I64 b := by unfold I64; omega
  have i_th : I64 th := by unfold I64; omega
  have i_m : I64 m := by unfold I64; omega
  have i_pl : I64 pl := by unfold I64; omega
  have i_ph : I64 ph := by unfold I64; omega
  have i_ql : I64 ql := by unfold I64; omega
  have i_qh : I64 qh := by unfold I64; omega
  have i_wl : I64 wl := by unfold I64; omega
  have i_wh : I64 wh := by unfold I64; omega
  have i_v : I64 v := by unfold I64; omega
  have i_o : I64 o := by unfold I64; omega
  have i_vs : I64 vs := by unfold I64; omega
  have i_vd : I64 vd := by unfold I64; omega
  have i_vl : I64 vl := by unfold I64; omega
  have i_vh : I64 vh := by unfold I64; omega
  have i_jl : I64 (min a b) := by unfold I64; omega
  have i_jh : I64 (max sh th) := by unfold I64; omega
  have c1 := fun w => sadd_any a sh b th i_a i_sh i_b i_th w
  have c2 := fun w => ssub_any a sh b th i_a i_sh i_b i_th w
  have c3 := fun w => swide_any a sh m i_a i_sh i_m w
  have c4 := fun w => has_any pl ph vs i_pl i_ph i_vs w
  have c5 := fun w => has_any ql qh vd i_ql i_qh i_vd w
  have c6 := fun w => has_any wl wh vl i_wl i_wh i_vl w
  have c7 := fun w => has_any wl wh vh i_wl i_wh i_vh w
  have c8 := fun w => join_any a sh b th w
  have c9 := fun w => has_any (min a b) (max sh th) v i_jl i_jh i_v w
  have ca := fun w => has_any (min a b) (max sh th) o i_jl i_jh i_o w
  rw [decide_eq_true (show a ≤ sh by omega), decide_eq_true (show b ≤ th by omega), Bool.and_true, pl_e, ph_e, spV_yes _ i_pl i_ph, spV_yes _ i_pl i_ph, spE_yes i_pl i_ph] at c1
  rw [decide_eq_true (show a ≤ sh by omega), decide_eq_true (show b ≤ th by omega), Bool.and_true, ql_e, qh_e, spV_yes _ i_ql i_qh, spV_yes _ i_ql i_qh, spE_yes i_ql i_qh] at c2
  rw [decide_eq_true (show a ≤ sh by omega), decide_eq_true (show 0 ≤ m by omega), Bool.and_true, wl_e, wh_e, spV_yes _ i_wl i_wh, spV_yes _ i_wl i_wh, spE_yes i_wl i_wh] at c3
  rw [decide_eq_true (show pl ≤ vs by omega), decide_eq_true (show vs ≤ ph by omega), Bool.and_true] at c4
  rw [decide_eq_true (show ql ≤ vd by omega), decide_eq_true (show vd ≤ qh by omega), Bool.and_true] at c5
  rw [decide_eq_true (show wl ≤ vl by omega), decide_eq_true (show vl ≤ wh by omega), Bool.and_true] at c6
  rw [decide_eq_true (show wl ≤ vh by omega), decide_eq_true (show vh ≤ wh by omega), Bool.and_true] at c7
  rw [decide_eq_true (show min a b ≤ v by omega), decide_eq_true (show v ≤ max sh th by omega), Bool.and_true] at c9
  rw [decide_eq_true (show min a b ≤ o by omega), decide_eq_true (show o ≤ max sh th by omega), Bool.and_true] at ca
  have z1 : -2147483648 ≤ v := by omega
  have z2 : v ≤ 2147549182 := by omega
  have z3 : -2147483648 ≤ o := by omega
  have z4 : o ≤ 2147549182 := by omega
  generalize min a b = jl at *
  generalize max sh th = jh at *
  clear i_a i_sh i_b i_th i_m i_pl i_ph i_ql i_qh i_wl i_wh i_v i_o i_vs i_vd i_vl i_vh i_jl i_jh pl_e ph_e ql_e qh_e wl_e wh_e pl_w ph_w ql_w qh_w wl_w wh_w
  go_enter Try.func4, Try.ntmps4
  go_wp2_with fail
  refine (known2_any _).mono ?_
  rintro e w1 ⟨rfl, h⟩
  replace h : Q w w1 := by first | exact h | exact ((Q.refl w).alloc _ _).trans h | exact (((Q.refl w).alloc _ _).alloc _ _).trans h | exact ((((Q.refl w).alloc _ _).alloc _ _).alloc _ _).trans h | exact (((((Q.refl w).alloc _ _).alloc _ _).alloc _ _).alloc _ _).trans h | exact ((Q.refl w).drewN _).trans h | exact (((Q.refl w).alloc _ _).drewN _).trans h | exact ((((Q.refl w).alloc _ _).alloc _ _).drewN _).trans h | exact (((((Q.refl w).alloc _ _).alloc _ _).alloc _ _).drewN _).trans h | exact ((((((Q.refl w).alloc _ _).alloc _ _).alloc _ _).alloc _ _).drewN _).trans h | exact (((Q.refl w).drewN _).drewN _).trans h | exact ((((Q.refl w).alloc _ _).drewN _).drewN _).trans h | exact (((((Q.refl w).alloc _ _).alloc _ _).drewN _).drewN _).trans h | exact ((((((Q.refl w).alloc _ _).alloc _ _).alloc _ _).drewN _).drewN _).trans h | exact (((((((Q.refl w).alloc _ _).alloc _ _).alloc _ _).alloc _ _).drewN _).drewN _).trans h
  have g := h
  clear h
  go_wp2_with fail
  go_quiet (fail)
  go_wp2_with fail
  go_quiet (fail)
  go_wp2_with fail
  refine (c1 _).mono ?_
  rintro e w2 ⟨rfl, h⟩
  have s0 := h.keep (p := ⟨w1.heap.size, 0, none⟩) (v := .int .i64 a) (by simp [go_sem])
  have s1 := h.keep (p := ⟨w1.heap.size, 1, none⟩) (v := .int .i64 sh) (by simp [go_sem])
  have t0 := h.keep (p := ⟨w1.heap.size + 1, 0, none⟩) (v := .int .i64 b) (by simp [go_sem])
  have t1 := h.keep (p := ⟨w1.heap.size + 1, 1, none⟩) (v := .int .i64 th) (by simp [go_sem])
  replace h : Q w1 w2 := by first | exact h | exact ((Q.refl w1).alloc _ _).trans h | exact (((Q.refl w1).alloc _ _).alloc _ _).trans h | exact ((((Q.refl w1).alloc _ _).alloc _ _).alloc _ _).trans h | exact (((((Q.refl w1).alloc _ _).alloc _ _).alloc _ _).alloc _ _).trans h | exact ((Q.refl w1).drewN _).trans h | exact (((Q.refl w1).alloc _ _).drewN _).trans h | exact ((((Q.refl w1).alloc _ _).alloc _ _).drewN _).trans h | exact (((((Q.refl w1).alloc _ _).alloc _ _).alloc _ _).drewN _).trans h | exact ((((((Q.refl w1).alloc _ _).alloc _ _).alloc _ _).alloc _ _).drewN _).trans h | exact (((Q.refl w1).drewN _).drewN _).trans h | exact ((((Q.refl w1).alloc _ _).drewN _).drewN _).trans h | exact (((((Q.refl w1).alloc _ _).alloc _ _).drewN _).drewN _).trans h | exact ((((((Q.refl w1).alloc _ _).alloc _ _).alloc _ _).drewN _).drewN _).trans h | exact (((((((Q.refl w1).alloc _ _).alloc _ _).alloc _ _).alloc _ _).drewN _).drewN _).trans h
  have sz : w1.heap.size < w2.heap.size := World.block_lt_of_cell? _ _ s0
  have tz : w1.heap.size + 1 < w2.heap.size := World.block_lt_of_cell? _ _ t0
  replace g := g.trans h
  clear h
  go_wp2_with fail
  refine (c2 _).mono ?_
  rintro e w3 ⟨rfl, h⟩
  have p0 := h.keep (p := ⟨w2.heap.size, 0, none⟩) (v := .int .i64 pl) (by simp [go_sem])
  have p1 := h.keep (p := ⟨w2.heap.size, 1, none⟩) (v := .int .i64 ph) (by simp [go_sem])
  replace h : Q w2 w3 := by first | exact h | exact ((Q.refl w2).alloc _ _).trans h | exact (((Q.refl w2).alloc _ _).alloc _ _).trans h | exact ((((Q.refl w2).alloc _ _).alloc _ _).alloc _ _).trans h | exact (((((Q.refl w2).alloc _ _).alloc _ _).alloc _ _).alloc _ _).trans h | exact ((Q.refl w2).drewN _).trans h | exact (((Q.refl w2).alloc _ _).drewN _).trans h | exact ((((Q.refl w2).alloc _ _).alloc _ _).drewN _).trans h | exact (((((Q.refl w2).alloc _ _).alloc _ _).alloc _ _).drewN _).trans h | exact ((((((Q.refl w2).alloc _ _).alloc _ _).alloc _ _).alloc _ _).drewN _).trans h | exact (((Q.refl w2).drewN _).drewN _).trans h | exact ((((Q.refl w2).alloc _ _).drewN _).drewN _).trans h | exact (((((Q.refl w2).alloc _ _).alloc _ _).drewN _).drewN _).trans h | exact ((((((Q.refl w2).alloc _ _).alloc _ _).alloc _ _).drewN _).drewN _).trans h | exact (((((((Q.refl w2).alloc _ _).alloc _ _).alloc _ _).alloc _ _).drewN _).drewN _).trans h
  replace s0 := h.keep s0
  replace s1 := h.keep s1
  replace t0 := h.keep t0
  replace t1 := h.keep t1
  replace sz : w1.heap.size < w3.heap.size := World.block_lt_of_cell? _ _ s0
  replace tz : w1.heap.size + 1 < w3.heap.size := World.block_lt_of_cell? _ _ t0
  have pz : w2.heap.size < w3.heap.size := World.block_lt_of_cell? _ _ p0
  replace g := g.trans h
  clear h
  go_wp2_with fail
  refine (c3 _).mono ?_
  rintro e w4 ⟨rfl, h⟩
  have q0 := h.keep (p := ⟨w3.heap.size, 0, none⟩) (v := .int .i64 ql) (by simp [go_sem])
  have q1 := h.keep (p := ⟨w3.heap.size, 1, none⟩) (v := .int .i64 qh) (by simp [go_sem])
  replace h : Q w3 w4 := by first | exact h | exact ((Q.refl w3).alloc _ _).trans h | exact (((Q.refl w3).alloc _ _).alloc _ _).trans h | exact ((((Q.refl w3).alloc _ _).alloc _ _).alloc _ _).trans h | exact (((((Q.refl w3).alloc _ _).alloc _ _).alloc _ _).alloc _ _).trans h | exact ((Q.refl w3).drewN _).trans h | exact (((Q.refl w3).alloc _ _).drewN _).trans h | exact ((((Q.refl w3).alloc _ _).alloc _ _).drewN _).trans h | exact (((((Q.refl w3).alloc _ _).alloc _ _).alloc _ _).drewN _).trans h | exact ((((((Q.refl w3).alloc _ _).alloc _ _).alloc _ _).alloc _ _).drewN _).trans h | exact (((Q.refl w3).drewN _).drewN _).trans h | exact ((((Q.refl w3).alloc _ _).drewN _).drewN _).trans h | exact (((((Q.refl w3).alloc _ _).alloc _ _).drewN _).drewN _).trans h | exact ((((((Q.refl w3).alloc _ _).alloc _ _).alloc _ _).drewN _).drewN _).trans h | exact (((((((Q.refl w3).alloc _ _).alloc _ _).alloc _ _).alloc _ _).drewN _).drewN _).trans h
  replace s0 := h.keep s0
  replace s1 := h.keep s1
  replace t0 := h.keep t0
  replace t1 := h.keep t1
  replace p0 := h.keep p0
  replace p1 := h.keep p1
  replace sz : w1.heap.size < w4.heap.size := World.block_lt_of_cell? _ _ s0
  replace tz : w1.heap.size + 1 < w4.heap.size := World.block_lt_of_cell? _ _ t0
  replace pz : w2.heap.size < w4.heap.size := World.block_lt_of_cell? _ _ p0
  have qz : w3.heap.size < w4.heap.size := World.block_lt_of_cell? _ _ q0
  replace g := g.trans h
  clear h
  go_wp2_with fail
  refine (c4 _).mono ?_
  rintro e w5 ⟨rfl, h⟩
  have u0 := h.keep (p := ⟨w4.heap.size, 0, none⟩) (v := .int .i64 wl) (by simp [go_sem])
  have u1 := h.keep (p := ⟨w4.heap.size, 1, none⟩) (v := .int .i64 wh) (by simp [go_sem])
  replace h : Q w4 w5 := by first | exact h | exact ((Q.refl w4).alloc _ _).trans h | exact (((Q.refl w4).alloc _ _).alloc _ _).trans h | exact ((((Q.refl w4).alloc _ _).alloc _ _).alloc _ _).trans h | exact (((((Q.refl w4).alloc _ _).alloc _ _).alloc _ _).alloc _ _).trans h | exact ((Q.refl w4).drewN _).trans h | exact (((Q.refl w4).alloc _ _).drewN _).trans h | exact ((((Q.refl w4).alloc _ _).alloc _ _).drewN _).trans h | exact (((((Q.refl w4).alloc _ _).alloc _ _).alloc _ _).drewN _).trans h | exact ((((((Q.refl w4).alloc _ _).alloc _ _).alloc _ _).alloc _ _).drewN _).trans h | exact (((Q.refl w4).drewN _).drewN _).trans h | exact ((((Q.refl w4).alloc _ _).drewN _).drewN _).trans h | exact (((((Q.refl w4).alloc _ _).alloc _ _).drewN _).drewN _).trans h | exact ((((((Q.refl w4).alloc _ _).alloc _ _).alloc _ _).drewN _).drewN _).trans h | exact (((((((Q.refl w4).alloc _ _).alloc _ _).alloc _ _).alloc _ _).drewN _).drewN _).trans h
  replace s0 := h.keep s0
  replace s1 := h.keep s1
  replace t0 := h.keep t0
  replace t1 := h.keep t1
  replace p0 := h.keep p0
  replace p1 := h.keep p1
  replace q0 := h.keep q0
  replace q1 := h.keep q1
  replace sz : w1.heap.size < w5.heap.size := World.block_lt_of_cell? _ _ s0
  replace tz : w1.heap.size + 1 < w5.heap.size := World.block_lt_of_cell? _ _ t0
  replace pz : w2.heap.size < w5.heap.size := World.block_lt_of_cell? _ _ p0
  replace qz : w3.heap.size < w5.heap.size := World.block_lt_of_cell? _ _ q0
  have uz : w4.heap.size < w5.heap.size := World.block_lt_of_cell? _ _ u0
  replace g := g.trans h
  clear h
  go_wp2_with fail
  refine (c5 _).mono ?_
  rintro e w6 ⟨rfl, h⟩
  replace h : Q w5 w6 := by first | exact h | exact ((Q.refl w5).alloc _ _).trans h | exact (((Q.refl w5).alloc _ _).alloc _ _).trans h | exact ((((Q.refl w5).alloc _ _).alloc _ _).alloc _ _).trans h | exact (((((Q.refl w5).alloc _ _).alloc _ _).alloc _ _).alloc _ _).trans h | exact ((Q.refl w5).drewN _).trans h | exact (((Q.refl w5).alloc _ _).drewN _).trans h | exact ((((Q.refl w5).alloc _ _).alloc _ _).drewN _).trans h | exact (((((Q.refl w5).alloc _ _).alloc _ _).alloc _ _).drewN _).trans h | exact ((((((Q.refl w5).alloc _ _).alloc _ _).alloc _ _).alloc _ _).drewN _).trans h | exact (((Q.refl w5).drewN _).drewN _).trans h | exact ((((Q.refl w5).alloc _ _).drewN _).drewN _).trans h | exact (((((Q.refl w5).alloc _ _).alloc _ _).drewN _).drewN _).trans h | exact ((((((Q.refl w5).alloc _ _).alloc _ _).alloc _ _).drewN _).drewN _).trans h | exact (((((((Q.refl w5).alloc _ _).alloc _ _).alloc _ _).alloc _ _).drewN _).drewN _).trans h
  replace s0 := h.keep s0
  replace s1 := h.keep s1
  replace t0 := h.keep t0
  replace t1 := h.keep t1
  replace p0 := h.keep p0
  replace p1 := h.keep p1
  replace q0 := h.keep q0
  replace q1 := h.keep q1
  replace u0 := h.keep u0
  replace u1 := h.keep u1
  replace sz : w1.heap.size < w6.heap.size := World.block_lt_of_cell? _ _ s0
  replace tz : w1.heap.size + 1 < w6.heap.size := World.block_lt_of_cell? _ _ t0
  replace pz : w2.heap.size < w6.heap.size := World.block_lt_of_cell? _ _ p0
  replace qz : w3.heap.size < w6.heap.size := World.block_lt_of_cell? _ _ q0
  replace uz : w4.heap.size < w6.heap.size := World.block_lt_of_cell? _ _ u0
  replace g := g.trans h
  clear h
  go_wp2_with fail
  refine (c6 _).mono ?_
  rintro e w7 ⟨rfl, h⟩
  replace h : Q w6 w7 := by first | exact h | exact ((Q.refl w6).alloc _ _).trans h | exact (((Q.refl w6).alloc _ _).alloc _ _).trans h | exact ((((Q.refl w6).alloc _ _).alloc _ _).alloc _ _).trans h | exact (((((Q.refl w6).alloc _ _).alloc _ _).alloc _ _).alloc _ _).trans h | exact ((Q.refl w6).drewN _).trans h | exact (((Q.refl w6).alloc _ _).drewN _).trans h | exact ((((Q.refl w6).alloc _ _).alloc _ _).drewN _).trans h | exact (((((Q.refl w6).alloc _ _).alloc _ _).alloc _ _).drewN _).trans h | exact ((((((Q.refl w6).alloc _ _).alloc _ _).alloc _ _).alloc _ _).drewN _).trans h | exact (((Q.refl w6).drewN _).drewN _).trans h | exact ((((Q.refl w6).alloc _ _).drewN _).drewN _).trans h | exact (((((Q.refl w6).alloc _ _).alloc _ _).drewN _).drewN _).trans h | exact ((((((Q.refl w6).alloc _ _).alloc _ _).alloc _ _).drewN _).drewN _).trans h | exact (((((((Q.refl w6).alloc _ _).alloc _ _).alloc _ _).alloc _ _).drewN _).drewN _).trans h
  replace s0 := h.keep s0
  replace s1 := h.keep s1
  replace t0 := h.keep t0
  replace t1 := h.keep t1
  replace p0 := h.keep p0
  replace p1 := h.keep p1
  replace q0 := h.keep q0
  replace q1 := h.keep q1
  replace u0 := h.keep u0
  replace u1 := h.keep u1
  replace sz : w1.heap.size < w7.heap.size := World.block_lt_of_cell? _ _ s0
  replace tz : w1.heap.size + 1 < w7.heap.size := World.block_lt_of_cell? _ _ t0
  replace pz : w2.heap.size < w7.heap.size := World.block_lt_of_cell? _ _ p0
  replace qz : w3.heap.size < w7.heap.size := World.block_lt_of_cell? _ _ q0
  replace uz : w4.heap.size < w7.heap.size := World.block_lt_of_cell? _ _ u0
  replace g := g.trans h
  clear h
  go_wp2_with fail
  refine (c7 _).mono ?_
  rintro e w8 ⟨rfl, h⟩
  replace h : Q w7 w8 := by first | exact h | exact ((Q.refl w7).alloc _ _).trans h | exact (((Q.refl w7).alloc _ _).alloc _ _).trans h | exact ((((Q.refl w7).alloc _ _).alloc _ _).alloc _ _).trans h | exact (((((Q.refl w7).alloc _ _).alloc _ _).alloc _ _).alloc _ _).trans h | exact ((Q.refl w7).drewN _).trans h | exact (((Q.refl w7).alloc _ _).drewN _).trans h | exact ((((Q.refl w7).alloc _ _).alloc _ _).drewN _).trans h | exact (((((Q.refl w7).alloc _ _).alloc _ _).alloc _ _).drewN _).trans h | exact ((((((Q.refl w7).alloc _ _).alloc _ _).alloc _ _).alloc _ _).drewN _).trans h | exact (((Q.refl w7).drewN _).drewN _).trans h | exact ((((Q.refl w7).alloc _ _).drewN _).drewN _).trans h | exact (((((Q.refl w7).alloc _ _).alloc _ _).drewN _).drewN _).trans h | exact ((((((Q.refl w7).alloc _ _).alloc _ _).alloc _ _).drewN _).drewN _).trans h | exact (((((((Q.refl w7).alloc _ _).alloc _ _).alloc _ _).alloc _ _).drewN _).drewN _).trans h
  replace s0 := h.keep s0
  replace s1 := h.keep s1
  replace t0 := h.keep t0
  replace t1 := h.keep t1
  replace p0 := h.keep p0
  replace p1 := h.keep p1
  replace q0 := h.keep q0
  replace q1 := h.keep q1
  replace u0 := h.keep u0
  replace u1 := h.keep u1
  replace sz : w1.heap.size < w8.heap.size := World.block_lt_of_cell? _ _ s0
  replace tz : w1.heap.size + 1 < w8.heap.size := World.block_lt_of_cell? _ _ t0
  replace pz : w2.heap.size < w8.heap.size := World.block_lt_of_cell? _ _ p0
  replace qz : w3.heap.size < w8.heap.size := World.block_lt_of_cell? _ _ q0
  replace uz : w4.heap.size < w8.heap.size := World.block_lt_of_cell? _ _ u0
  replace g := g.trans h
  clear h
  go_wp2_with fail
  refine (c8 _).mono ?_
  rintro e w9 ⟨rfl, h⟩
  replace h : Q w8 w9 := by first | exact h | exact ((Q.refl w8).alloc _ _).trans h | exact (((Q.refl w8).alloc _ _).alloc _ _).trans h | exact ((((Q.refl w8).alloc _ _).alloc _ _).alloc _ _).trans h | exact (((((Q.refl w8).alloc _ _).alloc _ _).alloc _ _).alloc _ _).trans h | exact ((Q.refl w8).drewN _).trans h | exact (((Q.refl w8).alloc _ _).drewN _).trans h | exact ((((Q.refl w8).alloc _ _).alloc _ _).drewN _).trans h | exact (((((Q.refl w8).alloc _ _).alloc _ _).alloc _ _).drewN _).trans h | exact ((((((Q.refl w8).alloc _ _).alloc _ _).alloc _ _).alloc _ _).drewN _).trans h | exact (((Q.refl w8).drewN _).drewN _).trans h | exact ((((Q.refl w8).alloc _ _).drewN _).drewN _).trans h | exact (((((Q.refl w8).alloc _ _).alloc _ _).drewN _).drewN _).trans h | exact ((((((Q.refl w8).alloc _ _).alloc _ _).alloc _ _).drewN _).drewN _).trans h | exact (((((((Q.refl w8).alloc _ _).alloc _ _).alloc _ _).alloc _ _).drewN _).drewN _).trans h
  replace s0 := h.keep s0
  replace s1 := h.keep s1
  replace t0 := h.keep t0
  replace t1 := h.keep t1
  replace p0 := h.keep p0
  replace p1 := h.keep p1
  replace q0 := h.keep q0
  replace q1 := h.keep q1
  replace u0 := h.keep u0
  replace u1 := h.keep u1
  replace sz : w1.heap.size < w9.heap.size := World.block_lt_of_cell? _ _ s0
  replace tz : w1.heap.size + 1 < w9.heap.size := World.block_lt_of_cell? _ _ t0
  replace pz : w2.heap.size < w9.heap.size := World.block_lt_of_cell? _ _ p0
  replace qz : w3.heap.size < w9.heap.size := World.block_lt_of_cell? _ _ q0
  replace uz : w4.heap.size < w9.heap.size := World.block_lt_of_cell? _ _ u0
  replace g := g.trans h
  clear h
  go_wp2_with fail
  refine (c9 _).mono ?_
  rintro e w10 ⟨rfl, h⟩
  replace h : Q w9 w10 := by first | exact h | exact ((Q.refl w9).alloc _ _).trans h | exact (((Q.refl w9).alloc _ _).alloc _ _).trans h | exact ((((Q.refl w9).alloc _ _).alloc _ _).alloc _ _).trans h | exact (((((Q.refl w9).alloc _ _).alloc _ _).alloc _ _).alloc _ _).trans h | exact ((Q.refl w9).drewN _).trans h | exact (((Q.refl w9).alloc _ _).drewN _).trans h | exact ((((Q.refl w9).alloc _ _).alloc _ _).drewN _).trans h | exact (((((Q.refl w9).alloc _ _).alloc _ _).alloc _ _).drewN _).trans h | exact ((((((Q.refl w9).alloc _ _).alloc _ _).alloc _ _).alloc _ _).drewN _).trans h | exact (((Q.refl w9).drewN _).drewN _).trans h | exact ((((Q.refl w9).alloc _ _).drewN _).drewN _).trans h | exact (((((Q.refl w9).alloc _ _).alloc _ _).drewN _).drewN _).trans h | exact ((((((Q.refl w9).alloc _ _).alloc _ _).alloc _ _).drewN _).drewN _).trans h | exact (((((((Q.refl w9).alloc _ _).alloc _ _).alloc _ _).alloc _ _).drewN _).drewN _).trans h
  replace s0 := h.keep s0
  replace s1 := h.keep s1
  replace t0 := h.keep t0
  replace t1 := h.keep t1
  replace p0 := h.keep p0
  replace p1 := h.keep p1
  replace q0 := h.keep q0
  replace q1 := h.keep q1
  replace u0 := h.keep u0
  replace u1 := h.keep u1
  replace sz : w1.heap.size < w10.heap.size := World.block_lt_of_cell? _ _ s0
  replace tz : w1.heap.size + 1 < w10.heap.size := World.block_lt_of_cell? _ _ t0
  replace pz : w2.heap.size < w10.heap.size := World.block_lt_of_cell? _ _ p0
  replace qz : w3.heap.size < w10.heap.size := World.block_lt_of_cell? _ _ q0
  replace uz : w4.heap.size < w10.heap.size := World.block_lt_of_cell? _ _ u0
  replace g := g.trans h
  clear h
  go_wp2_with fail
  refine (c8 _).mono ?_
  rintro e w11 ⟨rfl, h⟩
  replace h : Q w10 w11 := by first | exact h | exact ((Q.refl w10).alloc _ _).trans h | exact (((Q.refl w10).alloc _ _).alloc _ _).trans h | exact ((((Q.refl w10).alloc _ _).alloc _ _).alloc _ _).trans h | exact (((((Q.refl w10).alloc _ _).alloc _ _).alloc _ _).alloc _ _).trans h | exact ((Q.refl w10).drewN _).trans h | exact (((Q.refl w10).alloc _ _).drewN _).trans h | exact ((((Q.refl w10).alloc _ _).alloc _ _).drewN _).trans h | exact (((((Q.refl w10).alloc _ _).alloc _ _).alloc _ _).drewN _).trans h | exact ((((((Q.refl w10).alloc _ _).alloc _ _).alloc _ _).alloc _ _).drewN _).trans h | exact (((Q.refl w10).drewN _).drewN _).trans h | exact ((((Q.refl w10).alloc _ _).drewN _).drewN _).trans h | exact (((((Q.refl w10).alloc _ _).alloc _ _).drewN _).drewN _).trans h | exact ((((((Q.refl w10).alloc _ _).alloc _ _).alloc _ _).drewN _).drewN _).trans h | exact (((((((Q.refl w10).alloc _ _).alloc _ _).alloc _ _).alloc _ _).drewN _).drewN _).trans h
  replace s0 := h.keep s0
  replace s1 := h.keep s1
  replace t0 := h.keep t0
  replace t1 := h.keep t1
  replace p0 := h.keep p0
  replace p1 := h.keep p1
  replace q0 := h.keep q0
  replace q1 := h.keep q1
  replace u0 := h.keep u0
  replace u1 := h.keep u1
  replace sz : w1.heap.size < w11.heap.size := World.block_lt_of_cell? _ _ s0
  replace tz : w1.heap.size + 1 < w11.heap.size := World.block_lt_of_cell? _ _ t0
  replace pz : w2.heap.size < w11.heap.size := World.block_lt_of_cell? _ _ p0
  replace qz : w3.heap.size < w11.heap.size := World.block_lt_of_cell? _ _ q0
  replace uz : w4.heap.size < w11.heap.size := World.block_lt_of_cell? _ _ u0
  replace g := g.trans h
  clear h
  go_wp2_with fail
  refine (ca _).mono ?_
  rintro e w12 ⟨rfl, h⟩
  replace h : Q w11 w12 := by first | exact h | exact ((Q.refl w11).alloc _ _).trans h | exact (((Q.refl w11).alloc _ _).alloc _ _).trans h | exact ((((Q.refl w11).alloc _ _).alloc _ _).alloc _ _).trans h | exact (((((Q.refl w11).alloc _ _).alloc _ _).alloc _ _).alloc _ _).trans h | exact ((Q.refl w11).drewN _).trans h | exact (((Q.refl w11).alloc _ _).drewN _).trans h | exact ((((Q.refl w11).alloc _ _).alloc _ _).drewN _).trans h | exact (((((Q.refl w11).alloc _ _).alloc _ _).alloc _ _).drewN _).trans h | exact ((((((Q.refl w11).alloc _ _).alloc _ _).alloc _ _).alloc _ _).drewN _).trans h | exact (((Q.refl w11).drewN _).drewN _).trans h | exact ((((Q.refl w11).alloc _ _).drewN _).drewN _).trans h | exact (((((Q.refl w11).alloc _ _).alloc _ _).drewN _).drewN _).trans h | exact ((((((Q.refl w11).alloc _ _).alloc _ _).alloc _ _).drewN _).drewN _).trans h | exact (((((((Q.refl w11).alloc _ _).alloc _ _).alloc _ _).alloc _ _).drewN _).drewN _).trans h
  replace s0 := h.keep s0
  replace s1 := h.keep s1
  replace t0 := h.keep t0
  replace t1 := h.keep t1
  replace p0 := h.keep p0
  replace p1 := h.keep p1
  replace q0 := h.keep q0
  replace q1 := h.keep q1
  replace u0 := h.keep u0
  replace u1 := h.keep u1
  replace sz : w1.heap.size < w12.heap.size := World.block_lt_of_cell? _ _ s0
  replace tz : w1.heap.size + 1 < w12.heap.size := World.block_lt_of_cell? _ _ t0
  replace pz : w2.heap.size < w12.heap.size := World.block_lt_of_cell? _ _ p0
  replace qz : w3.heap.size < w12.heap.size := World.block_lt_of_cell? _ _ q0
  replace uz : w4.heap.size < w12.heap.size := World.block_lt_of_cell? _ _ u0
  replace g := g.trans h
  clear h
  go_wp2
  go_ret
  exact ⟨rfl, g⟩
end Go.Proofs.Ytehohogpnmokjaa
