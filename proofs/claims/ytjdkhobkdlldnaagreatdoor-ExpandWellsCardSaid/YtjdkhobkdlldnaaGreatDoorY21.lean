/-
  The contract of the document's own division of 128 bits by 64, bit by bit; The document's own sides of a section at a height; The document's own areas.
-/
import Derived.RegionTactic
import Derived.BigRegion
import Derived.ChangeAlike
import Derived.Lib.MinMax
import Derived.Test.YtjdkhobkdlldnaaGreatDoorY1
import Derived.Test.YtjdkhobkdlldnaaGreatDoorY2
import Derived.Test.YtjdkhobkdlldnaaGreatDoorY13
import Derived.Test.YtjdkhobkdlldnaaGreatDoorY20
namespace Go.Proofs.YtjdkhobkdlldnaaGreatDoor
open Go.RowKit
/-- What a round keeps: the halves that are read, those that are written, and all that was there. -/
structure Kept (hi lo qh ql : Nat) (w wr : World) : Prop where
  x0 : wr.cell? ⟨w.heap.size, 0, none⟩ = some (.int .u64 hi)
  x1 : wr.cell? ⟨w.heap.size, 1, none⟩ = some (.int .u64 lo)
  y0 : wr.cell? ⟨w.heap.size + 1 + 1, 0, none⟩ = some (.int .u64 qh)
  y1 : wr.cell? ⟨w.heap.size + 1 + 1, 1, none⟩ = some (.int .u64 ql)
  z0 : wr.frozen? ⟨w.heap.size + 1 + 1, 0, none⟩ = false
  z1 : wr.frozen? ⟨w.heap.size + 1 + 1, 1, none⟩ = false
  r0 : ∃ v, wr.cell? ⟨w.heap.size + 1, 0, none⟩ = some v
  r1 : ∃ v, wr.cell? ⟨w.heap.size + 1, 1, none⟩ = some v
  s0 : wr.frozen? ⟨w.heap.size + 1, 0, none⟩ = false
  s1 : wr.frozen? ⟨w.heap.size + 1, 1, none⟩ = false
  q : Q w wr
theorem Kept.high {hi lo qh ql : Nat} {w wr : World} (h : Kept hi lo qh ql w wr) (x : Nat) : Kept hi lo x ql w (wr.setCell ⟨w.heap.size + 1 + 1, 0, none⟩ (.int .u64 x)).drew := by
  have y0 := h.y0
  obtain ⟨v0, e0⟩ := h.r0
  obtain ⟨v1, e1⟩ := h.r1
  exact ⟨by simp [go_sem, h.x0], by simp [go_sem, h.x1], by simp [go_sem, h.y0], by simp [go_sem, h.y1], by simp [go_sem, h.z0], by simp [go_sem, h.z1], ⟨v0, by simp [go_sem, e0]⟩, ⟨v1, by simp [go_sem, e1]⟩, by simp [go_sem, h.s0], by simp [go_sem, h.s1], (h.q.setCell (by simp; omega) _).drew⟩
theorem Kept.low {hi lo qh ql : Nat} {w wr : World} (h : Kept hi lo qh ql w wr) (x : Nat) : Kept hi lo qh x w (wr.setCell ⟨w.heap.size + 1 + 1, 1, none⟩ (.int .u64 x)).drew := by
  have y1 := h.y1
  obtain ⟨v0, e0⟩ := h.r0
  obtain ⟨v1, e1⟩ := h.r1
  exact ⟨by simp [go_sem, h.x0], by simp [go_sem, h.x1], by simp [go_sem, h.y0], by simp [go_sem, h.y1], by simp [go_sem, h.z0], by simp [go_sem, h.z1], ⟨v0, by simp [go_sem, e0]⟩, ⟨v1, by simp [go_sem, e1]⟩, by simp [go_sem, h.s0], by simp [go_sem, h.s1], (h.q.setCell (by simp; omega) _).drew⟩
set_option maxRecDepth 100000 in
theorem divided_any (hi lo D : Nat) (hD : 0 < D) (hDl : D < 18446744073709551616) (hhi : hi < 18446744073709551616) (hlo : lo < 18446744073709551616) (w : World) :
    Calls Tryz.prog 145 #[.agg #[.int .u64 hi, .int .u64 lo], .int .u64 D] w fun e w' => (∃ qh ql : Nat, qh * 18446744073709551616 + ql = dq hi lo D ∧ ql < 18446744073709551616 ∧ e = .returned (.tuple #[.agg #[.int .u64 qh, .int .u64 ql], .bool (decide (0 < dr hi lo D))])) ∧ Q w w' := by
  have hN : hi * 18446744073709551616 + lo < 18446744073709551616 * 18446744073709551616 := by omega
  have D0 := Dv.first _ D hN
  go_enter Tryz.func145, Tryz.ntmps145
  go_wp2
  go_loopw [7, 8] (fun x y wr => ∃ n r qh ql : Nat, n ≤ 128 ∧ Dv (hi * 18446744073709551616 + lo) D n qh ql r ∧ x = .int .u64 r ∧ y = .int .i64 ((n : Int) - 1) ∧ Kept hi lo qh ql w wr) (fun _ y _ => (intOf y + 1).toNat)
  case atStart =>
    refine ⟨128, 0, 0, 0, Nat.le_refl _, D0, rfl, rfl, ?_⟩
    exact ⟨by simp [go_sem], by simp [go_sem], by simp [go_sem], by simp [go_sem], by simp [go_sem], by simp [go_sem], ⟨_, by simp [go_sem]; rfl⟩, ⟨_, by simp [go_sem]; rfl⟩, by simp [go_sem], by simp [go_sem], (((Q.refl w).alloc _ _).alloc _ _).alloc _ _⟩
  case round =>
    clear D0
    obtain ⟨n, r, qh, ql, hn, hd, rfl, rfl, hk⟩ := hrel
    cases n with
    | zero =>
      have y0 := hk.y0
      have y1 := hk.y1
      have s0 := hk.s0
      have s1 := hk.s1
      obtain ⟨v0, r0⟩ := hk.r0
      obtain ⟨v1, r1⟩ := hk.r1
      have e1 : ((0 : Nat) : Int) - 1 = -1 := by omega
      rw [e1]
      clear e1
      have hquo := hd.quo
      have hrest := hd.rest
      have hlo' := hd.lo
      rw [Nat.pow_zero, Nat.div_one, Nat.mul_one] at hquo
      rw [Nat.pow_zero, Nat.div_one] at hrest
      have HQ := Lib.hid hquo
      have hR0 : ((r : Int) != 0) = decide (0 < dr hi lo D) := by
        have : dr hi lo D = r := hrest.symm
        rw [this, Bool.eq_iff_iff]; simp; omega
      generalize hrb : decide (0 < dr hi lo D) = rb at *
      have Hrb := Lib.hid hrb
      clear hquo hrest hd hrb
      go_wp2
      refine bodyPost_ret (v := .tuple #[.agg #[.int .u64 qh, .int .u64 ql], .bool rb]) (by simp [results, Tryz.results145, go_sem, r0, r1]) rfl ⟨⟨qh, ql, HQ.out, hlo', by rw [Hrb.out]⟩, ?_⟩
      exact (hk.q.setCell (by simp) _).setCell (by simp) _
    | succ m =>
      have e1 : ((m + 1 : Nat) : Int) - 1 = (m : Int) := by omega
      rw [e1]
      clear e1
      have hrD : r < D := by rw [hd.rest]; exact Nat.mod_lt _ hD
      have hb2 : (hi * 18446744073709551616 + lo) / 2 ^ m % 2 < 2 := Nat.mod_lt _ (by omega)
      obtain ⟨O, R2, R3, o1, o2, o3, ways⟩ := rest_ways r _ D hb2 hrD hDl
      have y0 := hk.y0
      have z0 := hk.z0
      have y1 := hk.y1
      have z1 := hk.z1
      have x0 := hk.x0
      have x1 := hk.x1
      by_cases hm : 64 ≤ m
      · have hB : decide ((63 : Int) < (m : Int)) = true := decide_eq_true (by omega)
        have hbit := bit_read_high hi lo m hhi hlo hm
        rcases ways with ⟨c1, R4, c2, c3, c4⟩ | ⟨c1, c2, c3, c4⟩
        · obtain ⟨t1, t2, t3⟩ := set_high hd hN hm (by omega)
          have tk := hd.take hD c1
          rw [← t3, ← c3] at tk
          have hd' : Dv (hi * 18446744073709551616 + lo) D m (qh + 2 ^ (m - 64)) ql R4 := ⟨tk.1, tk.2, hd.lo⟩
          clear tk t3 c1 c3 hd
          generalize (hi * 18446744073709551616 + lo) / 2 ^ m % 2 = b at *
          generalize 2 ^ (m - 64) = T at *
          generalize qh + T = X at *
          rcases c4 with c4 | ⟨c4, c5⟩
          all_goals
            go_wp2
            go_region
            go_wp2
            go_roundw
            case rel => exact ⟨m, R4, X, ql, by omega, hd', rfl, rfl, hk.high X⟩
            case measure => simp [intOf]
        · have hd' := hd.leave hD c1
          rw [← c2] at hd'
          clear c1 c2 hd
          generalize (hi * 18446744073709551616 + lo) / 2 ^ m % 2 = b at *
          go_wp2
          go_roundw
          case rel => exact ⟨m, R3, qh, ql, by omega, hd', rfl, rfl, hk⟩
          case measure => simp [intOf]
      · have hB : decide ((63 : Int) < (m : Int)) = false := decide_eq_false (by omega)
        have hbit := bit_read_low hi lo m hlo (by omega)
        rcases ways with ⟨c1, R4, c2, c3, c4⟩ | ⟨c1, c2, c3, c4⟩
        · obtain ⟨t1, t2, t3⟩ := set_low hd (by omega)
          have tk := hd.take hD c1
          rw [← c3, Nat.add_assoc] at tk
          have hd' : Dv (hi * 18446744073709551616 + lo) D m qh (ql + 2 ^ m) R4 := ⟨tk.1, tk.2, t3⟩
          clear tk t3 c1 c3 hd
          generalize (hi * 18446744073709551616 + lo) / 2 ^ m % 2 = b at *
          generalize 2 ^ m = T at *
          generalize ql + T = X at *
          rcases c4 with c4 | ⟨c4, c5⟩
          all_goals
            go_wp2
            go_region
            go_wp2
            go_roundw
            case rel => exact ⟨m, R4, qh, X, by omega, hd', rfl, rfl, hk.low X⟩
            case measure => simp [intOf]
        · have hd' := hd.leave hD c1
          rw [← c2] at hd'
          clear c1 c2 hd
          generalize (hi * 18446744073709551616 + lo) / 2 ^ m % 2 = b at *
          go_wp2
          go_roundw
          case rel => exact ⟨m, R3, qh, ql, by omega, hd', rfl, rfl, hk⟩
          case measure => simp [intOf]
/-- The quotient's halves, and one more. -/
theorem up_one (qh ql : Nat) (h : ql < 18446744073709551616) (h2 : qh < 18446744073709551615) :
    (∃ l : Nat, IntKind.u64.wrap ((ql : Int) + 1) = (l : Int) ∧ ((l : Int) == 0) = false ∧ l < 18446744073709551616 ∧ qh * 18446744073709551616 + l = qh * 18446744073709551616 + ql + 1) ∨
    (∃ k : Nat, IntKind.u64.wrap ((ql : Int) + 1) = 0 ∧ IntKind.u64.wrap ((qh : Int) + 1) = (k : Int) ∧ k * 18446744073709551616 + 0 = qh * 18446744073709551616 + ql + 1) := by
  by_cases c : ql = 18446744073709551615
  · refine Or.inr ⟨qh + 1, ?_, ?_, by omega⟩
    · rw [wrapU]; omega
    · rw [wrapU]; omega
  · refine Or.inl ⟨ql + 1, ?_, ?_, by omega, by omega⟩
    · rw [wrapU]; omega
    · rw [beq_eq_false_iff_ne]; omega
/-- As a caller spells the halves. -/
theorem rsigned_int (x z : Int) (hi lo : Nat) (neg : Bool) (hx : x = (hi : Int)) (hz : z = (lo : Int)) (hlo : lo < 18446744073709551616) (v : Int) (hv : sg neg (hi * 18446744073709551616 + lo) = v) (w : World) :
    Calls Tryz.prog 149 #[.agg #[.int .u64 x, .int .u64 z], .bool neg] w fun e w' => e = .returned (.tuple #[.int .i64 (qv v), .bool (decide (I64 v))]) ∧ Q w w' := by
  subst hx hz hv
  exact rsigned_any hi lo neg hlo w
theorem rmuldiv_zero (a b : Int) (up : Bool) (w : World) :
    Calls Tryz.prog 137 #[.int .i64 a, .int .i64 b, .int .i64 0, .bool up] w fun e w' => e = .returned (.tuple #[.int .i64 0, .int .i64 22]) ∧ w = w' := by
  go_enter Tryz.func137, Tryz.ntmps137
  go_wp2
  go_ret2
  exact ⟨rfl, rfl⟩
set_option maxHeartbeats 1000000 in
theorem rmuldiv_any (a b y : Int) (up : Bool) (ha : I64 a) (hb : I64 b) (hy : I64 y) (w : World) :
    Calls Tryz.prog 137 #[.int .i64 a, .int .i64 b, .int .i64 y, .bool up] w fun e w' => e = .returned (.tuple #[.int .i64 (mv a b y up), .int .i64 (me a b y up)]) ∧ Q w w' := by
  by_cases h0 : y = 0
  · subst h0
    exact (rmuldiv_zero a b up w).mono fun _ _ h => ⟨by rw [h.1]; rfl, by rw [← h.2]; exact Q.refl _⟩
  · have em : mv a b y up = qv (mq a b y up) ∧ me a b y up = qe (mq a b y up) := ⟨if_neg h0, if_neg h0⟩
    rw [em.1, em.2, mq_eq a b y up h0]
    clear em
    have hne : (y == 0) = false := by simpa using h0
    have nbT : y < 0 → (decide (a < 0) == decide (b < 0)) = nb a b y := fun h => by unfold nb; rw [decide_eq_true h]; cases decide (a < 0) <;> cases decide (b < 0) <;> rfl
    have nbF : ¬ y < 0 → (decide (a < 0) == decide (b < 0)) = !nb a b y := fun h => by unfold nb; rw [decide_eq_false h]; cases decide (a < 0) <;> cases decide (b < 0) <;> rfl
    generalize nb a b y = neg at *
    have cA := fun w => amount_any a ha w
    have cB := fun w => amount_any b hb w
    have cY := fun w => amount_any y hy w
    have lA := (abs_lt a ha).1
    have lB := (abs_lt b hb).1
    have lY := (abs_lt y hy).1
    have pY : 0 < y.natAbs := by omega
    have lA2 := (abs_lt a ha).2
    have lB2 := (abs_lt b hb).2
    generalize a.natAbs = A at *
    generalize b.natAbs = B at *
    generalize y.natAbs = Y at *
    have cT := fun w => times_any A B lA lB w
    have lH : hi64 A B < 18446744073709551616 := by
      unfold hi64
      rw [Nat.div_lt_iff_lt_mul (by omega)]
      have := Nat.mul_le_mul (Nat.le_of_lt_succ lA) (Nat.le_of_lt_succ lB)
      omega
    have cD := fun w => divided_any (hi64 A B) (lo64 A B) Y pY lY lH (lo64_lt _ _) w
    have hh := halves A B
    have hprod : A * B ≤ 9223372036854775808 * 9223372036854775808 := Nat.mul_le_mul lA2 lB2
    have hdq : dq (hi64 A B) (lo64 A B) Y = A * B / Y := by unfold dq; rw [hh]
    have hdr : dr (hi64 A B) (lo64 A B) Y = A * B % Y := by unfold dr; rw [hh]
    rw [hdq, hdr] at cD
    generalize hi64 A B = H at *
    generalize lo64 A B = L at *
    clear hh hdq hdr lA lB lA2 lB2
    have hql : A * B / Y ≤ 9223372036854775808 * 9223372036854775808 := Nat.le_trans (Nat.div_le_self _ _) hprod
    unfold qu
    generalize A * B / Y = K at *
    generalize A * B % Y = R at *
    clear hprod ha hb hy h0
    have hys : (decide (y < 0) = true ∧ (decide (a < 0) == decide (b < 0)) = neg) ∨ (decide (y < 0) = false ∧ (decide (a < 0) == decide (b < 0)) = !neg) := by
      by_cases h : y < 0
      · exact Or.inl ⟨decide_eq_true h, nbT h⟩
      · exact Or.inr ⟨decide_eq_false h, nbF h⟩
    clear nbT nbF
    have ways : (decide (0 < R) = false ∧ (K + if (up != neg && decide (0 < R)) = true then 1 else 0) = K) ∨
        (decide (0 < R) = true ∧ neg = up ∧ (K + if (up != neg && decide (0 < R)) = true then 1 else 0) = K) ∨
        (decide (0 < R) = true ∧ neg = !up ∧ (K + if (up != neg && decide (0 < R)) = true then 1 else 0) = K + 1) := by
      by_cases hR : 0 < R
      · by_cases hu : neg = up
        · exact Or.inr (Or.inl ⟨decide_eq_true hR, hu, by rw [hu]; simp⟩)
        · have hn : neg = !up := by revert hu; cases up <;> cases neg <;> simp
          exact Or.inr (Or.inr ⟨decide_eq_true hR, hn, by rw [hn]; simp [hR]⟩)
      · exact Or.inl ⟨decide_eq_false hR, by simp [hR]⟩
    rcases ways with ⟨k1, k2⟩ | ⟨k1, k3, k2⟩ | ⟨k1, k3, k2⟩
    · rw [k2]
      rw [k1] at cD
      clear k1 k2
      have cG := fun w => told_qv (sg neg K) w
      generalize hv : sg neg K = v at *
      have Hv := Lib.hid hv
      clear hv
      rcases hys with ⟨j1, j2⟩ | ⟨j1, j2⟩
      all_goals
        go_enter Tryz.func137, Tryz.ntmps137
        go_wp2_with fail
        refine (cA _).mono ?_
        rintro e w1 ⟨rfl, rfl⟩
        go_wp2_with fail
        refine (cB _).mono ?_
        rintro e w1 ⟨rfl, rfl⟩
        go_wp2_with fail
        refine (cT _).mono ?_
        rintro e w1 ⟨rfl, q1⟩
        go_wp2_with fail
        refine (cY _).mono ?_
        rintro e w2 ⟨rfl, rfl⟩
        go_wp2_with fail
        refine (cD _).mono ?_
        rintro e w2 ⟨⟨qh, ql, u1, u2, rfl⟩, q2⟩
        have U1 := Lib.hid u1
        clear u1
        go_wp2_with fail
        refine (rsigned_int _ _ qh ql _ rfl rfl u2 v (by rw [U1.out]; exact Hv.out) _).mono ?_
        rintro e w3 ⟨rfl, q3⟩
        go_wp2_with fail
        refine (cG _).mono ?_
        rintro e w4 ⟨rfl, rfl⟩
        go_wp2
        go_ret2
        exact ⟨rfl, ((q1.trans q2).alloc _ _).trans q3⟩
    · rw [k2]
      rw [k1] at cD
      clear k1 k2
      subst k3
      have cG := fun w => told_qv (sg neg K) w
      generalize hv : sg neg K = v at *
      have Hv := Lib.hid hv
      clear hv
      cases neg
      all_goals
        rcases hys with ⟨j1, j2⟩ | ⟨j1, j2⟩
        all_goals
          go_enter Tryz.func137, Tryz.ntmps137
          go_wp2_with fail
          refine (cA _).mono ?_
          rintro e w1 ⟨rfl, rfl⟩
          go_wp2_with fail
          refine (cB _).mono ?_
          rintro e w1 ⟨rfl, rfl⟩
          go_wp2_with fail
          refine (cT _).mono ?_
          rintro e w1 ⟨rfl, q1⟩
          go_wp2_with fail
          refine (cY _).mono ?_
          rintro e w2 ⟨rfl, rfl⟩
          go_wp2_with fail
          refine (cD _).mono ?_
          rintro e w2 ⟨⟨qh, ql, u1, u2, rfl⟩, q2⟩
          have U1 := Lib.hid u1
          clear u1
          go_wp2_with fail
          refine (rsigned_int _ _ qh ql _ rfl rfl u2 v (by rw [U1.out]; exact Hv.out) _).mono ?_
          rintro e w3 ⟨rfl, q3⟩
          go_wp2_with fail
          refine (cG _).mono ?_
          rintro e w4 ⟨rfl, rfl⟩
          go_wp2
          go_ret2
          exact ⟨rfl, ((q1.trans q2).alloc _ _).trans q3⟩
    · rw [k2]
      rw [k1] at cD
      clear k1 k2
      have cG := fun w => told_qv (sg neg (K + 1)) w
      generalize hv : sg neg (K + 1) = v at *
      have Hv := Lib.hid hv
      clear hv
      subst k3
      cases up
      all_goals
        rcases hys with ⟨j1, j2⟩ | ⟨j1, j2⟩
        all_goals
          go_enter Tryz.func137, Tryz.ntmps137
          go_wp2_with fail
          refine (cA _).mono ?_
          rintro e w1 ⟨rfl, rfl⟩
          go_wp2_with fail
          refine (cB _).mono ?_
          rintro e w1 ⟨rfl, rfl⟩
          go_wp2_with fail
          refine (cT _).mono ?_
          rintro e w1 ⟨rfl, q1⟩
          go_wp2_with fail
          refine (cY _).mono ?_
          rintro e w2 ⟨rfl, rfl⟩
          go_wp2_with fail
          refine (cD _).mono ?_
          rintro e w2 ⟨⟨qh, ql, u1, u2, rfl⟩, q2⟩
          have ups := up_one qh ql u2 (by omega)
          have U1 := Lib.hid u1
          clear u1
          rcases ups with ⟨l, p1, p2, p3, p4⟩ | ⟨l, p1, p2, p3⟩
          · have P4 := Lib.hid p4
            clear p4
            go_wp2_with fail
            refine (rsigned_int _ _ qh l _ rfl rfl p3 v (by rw [P4.out, U1.out]; exact Hv.out) _).mono ?_
            rintro e w3 ⟨rfl, q3⟩
            go_wp2_with fail
            refine (cG _).mono ?_
            rintro e w4 ⟨rfl, rfl⟩
            go_wp2
            go_ret2
            exact ⟨rfl, ((q1.trans q2).alloc _ _).trans q3⟩
          · have P3 := Lib.hid p3
            clear p3
            go_wp2_with fail
            refine (rsigned_int _ _ l 0 _ rfl rfl (by omega) v (by rw [P3.out, U1.out]; exact Hv.out) _).mono ?_
            rintro e w3 ⟨rfl, q3⟩
            go_wp2_with fail
            refine (cG _).mono ?_
            rintro e w4 ⟨rfl, rfl⟩
            go_wp2
            go_ret2
            exact ⟨rfl, ((q1.trans q2).alloc _ _).trans q3⟩
end Go.Proofs.YtjdkhobkdlldnaaGreatDoor

namespace Go.Proofs.YtjdkhobkdlldnaaGreatDoor
open Go.RowKit
theorem straight_any (x0 x1 at_ h : Int) (up : Bool) (a0 : 0 ≤ x0) (b0 : x0 ≤ 20000) (a1 : 0 ≤ x1) (b1 : x1 ≤ 20000) (h0 : 0 ≤ at_) (h1 : at_ ≤ h) (hh : 1 ≤ h) (hI : I64 h) (w : World) :
    Calls Tryz.prog 124 #[.int .i64 x0, .int .i64 x1, .int .i64 at_, .int .i64 h, .bool up] w fun e w' => e = .returned (.int .i64 (sideM x0 x1 at_ h up)) ∧ Q w w' := by
  obtain ⟨f1, f2, f3, f4⟩ := side_fits a0 b0 a1 b1 h0 h1 hh up
  have c := fun w => rmuldiv_any (x1 - x0) at_ h up (by unfold I64; omega) (by unfold I64 at *; omega) hI w
  have e1 : IntKind.i64.wrap (x1 - x0) = x1 - x0 := wrapI (by omega) (by omega)
  unfold sideM at *
  generalize mv (x1 - x0) at_ h up = g at *
  generalize me (x1 - x0) at_ h up = g' at *
  have e2 : IntKind.i64.wrap (x0 + g) = x0 + g := wrapI (by omega) (by omega)
  clear f1 f2 f3 f4
  go_enter Tryz.func124, Tryz.ntmps124
  go_wp2_with fail
  refine (c _).mono ?_
  rintro e w1 ⟨rfl, h⟩
  go_wp2
  go_ret
  exact ⟨rfl, h⟩
set_option maxHeartbeats 4000000 in
theorem r3side_any (r : Bool) (h a0 b0 a1 b1 at_ : Int) (up : Bool) (w : World) (hI : Sec.I ⟨r, h, a0, b0, a1, b1⟩) (_hat : I64 at_) :
    Calls Tryz.prog 103 #[.agg #[.bool r, .int .i64 h, .int .i64 a0, .int .i64 b0, .int .i64 a1, .int .i64 b1], .int .i64 at_, .bool up] w fun e w' =>
      e = .returned (.tuple #[.int .i64 (sideOf ⟨r, h, a0, b0, a1, b1⟩ at_ up).1, .int .i64 (sideOf ⟨r, h, a0, b0, a1, b1⟩ at_ up).2]) ∧ Q w w' := by
  obtain ⟨i1, i2, i3, i4, i5⟩ := hI
  simp only at i1 i2 i3 i4 i5
  have c1 := fun w => in_any a0 0 20000 w
  have c2 := fun w => in_any a1 0 20000 w
  have c3 := fun w => in_any b0 0 20000 w
  have c4 := fun w => in_any b1 0 20000 w
  have hno : ¬ (1 ≤ h ∧ inB a0 0 20000 = true ∧ inB a1 0 20000 = true ∧ inB b0 0 20000 = true ∧ inB b1 0 20000 = true) → sideOf ⟨r, h, a0, b0, a1, b1⟩ at_ up = (0, 0) := fun c => if_neg c
  by_cases hh : h < 1
  · have hB : decide (h < 1) = true := decide_eq_true hh
    rw [hno (fun x => by omega)]
    clear hno
    go_enter Tryz.func103, Tryz.ntmps103
    go_wp2
    go_ret2
    exact ⟨rfl, (Q.refl w).alloc _ _⟩
  have hB : decide (h < 1) = false := decide_eq_false hh
  have ways1 : inB a0 0 20000 = false ∨ inB a0 0 20000 = true := by cases inB a0 0 20000 <;> simp
  rcases ways1 with q1 | q1
  · rw [hno (fun x => by have y := x.2; simp [q1] at y)]
    rw [q1] at c1
    clear hno
    go_enter Tryz.func103, Tryz.ntmps103
    go_wp2_with fail
    refine (c1 _).mono ?_
    rintro e w1 ⟨rfl, rfl⟩
    go_wp2
    go_ret2
    exact ⟨rfl, (Q.refl w).alloc _ _⟩
  rw [q1] at c1
  have ways2 : inB a1 0 20000 = false ∨ inB a1 0 20000 = true := by cases inB a1 0 20000 <;> simp
  rcases ways2 with q2 | q2
  · rw [hno (fun x => by have y := x.2; simp [q2] at y)]
    rw [q2] at c2
    clear hno
    go_enter Tryz.func103, Tryz.ntmps103
    go_wp2_with fail
    refine (c1 _).mono ?_
    rintro e w1 ⟨rfl, rfl⟩
    go_wp2_with fail
    refine (c2 _).mono ?_
    rintro e w1 ⟨rfl, rfl⟩
    go_wp2
    go_ret2
    exact ⟨rfl, (Q.refl w).alloc _ _⟩
  rw [q2] at c2
  have ways3 : inB b0 0 20000 = false ∨ inB b0 0 20000 = true := by cases inB b0 0 20000 <;> simp
  rcases ways3 with q3 | q3
  · rw [hno (fun x => by have y := x.2; simp [q3] at y)]
    rw [q3] at c3
    clear hno
    go_enter Tryz.func103, Tryz.ntmps103
    go_wp2_with fail
    refine (c1 _).mono ?_
    rintro e w1 ⟨rfl, rfl⟩
    go_wp2_with fail
    refine (c2 _).mono ?_
    rintro e w1 ⟨rfl, rfl⟩
    go_wp2_with fail
    refine (c3 _).mono ?_
    rintro e w1 ⟨rfl, rfl⟩
    go_wp2
    go_ret2
    exact ⟨rfl, (Q.refl w).alloc _ _⟩
  rw [q3] at c3
  have ways4 : inB b1 0 20000 = false ∨ inB b1 0 20000 = true := by cases inB b1 0 20000 <;> simp
  rcases ways4 with q4 | q4
  · rw [hno (fun x => by have y := x.2; simp [q4] at y)]
    rw [q4] at c4
    clear hno
    go_enter Tryz.func103, Tryz.ntmps103
    go_wp2_with fail
    refine (c1 _).mono ?_
    rintro e w1 ⟨rfl, rfl⟩
    go_wp2_with fail
    refine (c2 _).mono ?_
    rintro e w1 ⟨rfl, rfl⟩
    go_wp2_with fail
    refine (c3 _).mono ?_
    rintro e w1 ⟨rfl, rfl⟩
    go_wp2_with fail
    refine (c4 _).mono ?_
    rintro e w1 ⟨rfl, rfl⟩
    go_wp2
    go_ret2
    exact ⟨rfl, (Q.refl w).alloc _ _⟩
  rw [q4] at c4
  have e : sideOf ⟨r, h, a0, b0, a1, b1⟩ at_ up = (sideM a0 a1 (min (max at_ 0) h) h up, if r then 0 else sideM b0 b1 (min (max at_ 0) h) h up) := if_pos ⟨by simp only; omega, q1, q2, q3, q4⟩
  rw [e]
  clear e hno
  rw [inB_iff] at q1 q2 q3 q4
  obtain ⟨p, hp⟩ : ∃ p, max at_ 0 = p := ⟨_, rfl⟩
  obtain ⟨q, hq⟩ : ∃ q, min p h = q := ⟨_, rfl⟩
  rw [hp, hq]
  have d1 := fun w => straight_any a0 a1 q h up q1.1 q1.2 q2.1 q2.2 (by omega) (by omega) (by omega) i1 w
  have d2 := fun w => straight_any b0 b1 q h up q3.1 q3.2 q4.1 q4.2 (by omega) (by omega) (by omega) i1 w
  generalize sideM a0 a1 q h up = A at *
  generalize sideM b0 b1 q h up = D at *
  clear q1 q2 q3 q4 i1 i2 i3 i4 i5 _hat hh
  cases r
  · go_enter Tryz.func103, Tryz.ntmps103
    go_wp2_with fail
    refine (c1 _).mono ?_
    rintro e w1 ⟨rfl, rfl⟩
    go_wp2_with fail
    refine (c2 _).mono ?_
    rintro e w1 ⟨rfl, rfl⟩
    go_wp2_with fail
    refine (c3 _).mono ?_
    rintro e w1 ⟨rfl, rfl⟩
    go_wp2_with fail
    refine (c4 _).mono ?_
    rintro e w1 ⟨rfl, rfl⟩
    go_wp2_with fail
    have g := Q.refl (w.alloc (.cells #[.bool false, .int .i64 h, .int .i64 a0, .int .i64 b0, .int .i64 a1, .int .i64 b1] 37))
    have g0 := (Q.refl w).alloc #[.bool false, .int .i64 h, .int .i64 a0, .int .i64 b0, .int .i64 a1, .int .i64 b1] 37
    have z0 : (w.alloc (.cells #[.bool false, .int .i64 h, .int .i64 a0, .int .i64 b0, .int .i64 a1, .int .i64 b1] 37)).cell? ⟨w.heap.size, 0, none⟩ = some (.bool false) := by simp [go_sem]
    have z1 : (w.alloc (.cells #[.bool false, .int .i64 h, .int .i64 a0, .int .i64 b0, .int .i64 a1, .int .i64 b1] 37)).cell? ⟨w.heap.size, 1, none⟩ = some (.int .i64 h) := by simp [go_sem]
    have z2 : (w.alloc (.cells #[.bool false, .int .i64 h, .int .i64 a0, .int .i64 b0, .int .i64 a1, .int .i64 b1] 37)).cell? ⟨w.heap.size, 2, none⟩ = some (.int .i64 a0) := by simp [go_sem]
    have z3 : (w.alloc (.cells #[.bool false, .int .i64 h, .int .i64 a0, .int .i64 b0, .int .i64 a1, .int .i64 b1] 37)).cell? ⟨w.heap.size, 3, none⟩ = some (.int .i64 b0) := by simp [go_sem]
    have z4 : (w.alloc (.cells #[.bool false, .int .i64 h, .int .i64 a0, .int .i64 b0, .int .i64 a1, .int .i64 b1] 37)).cell? ⟨w.heap.size, 4, none⟩ = some (.int .i64 a1) := by simp [go_sem]
    have z5 : (w.alloc (.cells #[.bool false, .int .i64 h, .int .i64 a0, .int .i64 b0, .int .i64 a1, .int .i64 b1] 37)).cell? ⟨w.heap.size, 5, none⟩ = some (.int .i64 b1) := by simp [go_sem]
    generalize w.alloc (.cells #[.bool false, .int .i64 h, .int .i64 a0, .int .i64 b0, .int .i64 a1, .int .i64 b1] 37) = WW at *
    obtain ⟨BB, hBB⟩ : ∃ BB, w.heap.size = BB := ⟨_, rfl⟩
    rw [hBB] at z0 z1 z2 z3 z4 z5
    try rw [hBB]
    refine wp_region_noPanic ?_
    refine wp_region_seq (S := fun w' => w'.cell? ⟨BB, 0, none⟩ = some (.bool false) ∧ w'.cell? ⟨BB, 1, none⟩ = some (.int .i64 h) ∧ w'.cell? ⟨BB, 2, none⟩ = some (.int .i64 a0) ∧ w'.cell? ⟨BB, 3, none⟩ = some (.int .i64 b0) ∧ w'.cell? ⟨BB, 4, none⟩ = some (.int .i64 a1) ∧ w'.cell? ⟨BB, 5, none⟩ = some (.int .i64 b1) ∧ Q WW w') [(0, 0), (1, 0), (2, 0), (3, 0), (4, 0), (5, 0), (6, 0), (7, 0), (9, 0), (10, 0), (11, 0), (12, 0), (13, 0), (14, 0), (15, 0), (16, 0), (8, 2), (17, 2), (18, 0), (19, 0)] [0, 1, 0, 4, 0, 0, 32, 0, 218, 0, 512, 0, 2048, 0, 0, 16384, 0, 111872, 131583, 524287] [0, 1, 0, 4, 0, 0, 32, 0, 218, 0, 512, 0, 2048, 0, 0, 16384, 0, 111616, 256, 131072] (by kernel_rfl) (by kernel_rfl) (fun _ _ _ _ _ h => h) ?_ (fun hH => ?_)
    · exact ⟨by simp [go_sem, z0], by simp [go_sem, z1], by simp [go_sem, z2], by simp [go_sem, z3], by simp [go_sem, z4], by simp [go_sem, z5], g.drew⟩
    refine wpSeq_take (d := 42) (v := ?_) rfl rfl (by kernel_rfl) (fun w hS => ?_) ?_
    rotate_left
    · go_simp <;> with_reducible rfl
    dsimp only [List.set_cons_zero, List.set_cons_succ]
    refine wpSeq_take (d := 43) (v := ?_) rfl rfl (by kernel_rfl) (fun w hS => ?_) ?_
    rotate_left
    · go_simp <;> with_reducible rfl
    dsimp only [List.set_cons_zero, List.set_cons_succ]
    refine wpSeq_take (d := 44) (v := ?_) rfl rfl (by kernel_rfl) (fun w hS => ?_) ?_
    rotate_left
    · go_simp <;> with_reducible rfl
    dsimp only [List.set_cons_zero, List.set_cons_succ]
    refine wpSeq_take (d := 45) (v := ?_) rfl rfl (by kernel_rfl) (fun w hS => ?_) ?_
    rotate_left
    · go_simp <;> with_reducible rfl
    dsimp only [List.set_cons_zero, List.set_cons_succ]
    refine wpSeq_take (d := 46) (v := ?_) rfl rfl (by kernel_rfl) (fun w hS => ?_) ?_
    rotate_left
    · go_simp <;> with_reducible rfl
    dsimp only [List.set_cons_zero, List.set_cons_succ]
    refine wpSeq_take (d := 47) (v := ?_) rfl rfl (by kernel_rfl) (fun w hS => ?_) ?_
    rotate_left
    · go_simp <;> with_reducible rfl
    dsimp only [List.set_cons_zero, List.set_cons_succ]
    refine wpSeq_take (d := 48) (v := ?_) rfl rfl (by kernel_rfl) (fun w hS => ?_) ?_
    rotate_left
    · go_simp <;> with_reducible rfl
    dsimp only [List.set_cons_zero, List.set_cons_succ]
    refine wpSeq_take (d := 49) (v := ?_) rfl rfl (by kernel_rfl) (fun w hS => ?_) ?_
    rotate_left
    · go_simp <;> with_reducible rfl
    dsimp only [List.set_cons_zero, List.set_cons_succ]
    refine wpSeq_take (d := 51) (v := ?_) rfl rfl (by kernel_rfl) (fun w hS => ?_) ?_
    rotate_left
    · go_simp <;> with_reducible rfl
    dsimp only [List.set_cons_zero, List.set_cons_succ]
    refine wpSeq_take (d := 52) (v := ?_) rfl rfl (by kernel_rfl) (fun w hS => ?_) ?_
    rotate_left
    · go_simp <;> with_reducible rfl
    dsimp only [List.set_cons_zero, List.set_cons_succ]
    refine wpSeq_take (d := 53) (v := ?_) rfl rfl (by kernel_rfl) (fun w hS => ?_) ?_
    rotate_left
    · go_simp <;> with_reducible rfl
    dsimp only [List.set_cons_zero, List.set_cons_succ]
    refine wpSeq_take (d := 54) (v := ?_) rfl rfl (by kernel_rfl) (fun w hS => ?_) ?_
    rotate_left
    · go_simp <;> with_reducible rfl
    dsimp only [List.set_cons_zero, List.set_cons_succ]
    refine wpSeq_take (d := 55) (v := ?_) rfl rfl (by kernel_rfl) (fun w hS => ?_) ?_
    rotate_left
    · go_simp <;> with_reducible rfl
    dsimp only [List.set_cons_zero, List.set_cons_succ]
    refine wpSeq_take (d := 56) (v := ?_) rfl rfl (by kernel_rfl) (fun w hS => ?_) ?_
    rotate_left
    · go_simp <;> with_reducible rfl
    dsimp only [List.set_cons_zero, List.set_cons_succ]
    refine wpSeq_take (d := 57) (v := ?_) rfl rfl (by kernel_rfl) (fun w hS => ?_) ?_
    rotate_left
    · go_simp <;> with_reducible rfl
    dsimp only [List.set_cons_zero, List.set_cons_succ]
    refine wpSeq_take (d := 58) (v := ?_) rfl rfl (by kernel_rfl) (fun w hS => ?_) ?_
    rotate_left
    · go_simp <;> with_reducible rfl
    dsimp only [List.set_cons_zero, List.set_cons_succ]
    refine wpSeq_call rfl (by kernel_rfl) (fun K hK => ?_)
    go_simp
    (with_reducible refine (d1 _).mono ?_)
    rintro e w' ⟨rfl, hq⟩
    refine hK.out _ _ ?_ (fun hH => ?_)
    · exact ⟨hq.keep hH.1, hq.keep hH.2.1, hq.keep hH.2.2.1, hq.keep hH.2.2.2.1, hq.keep hH.2.2.2.2.1, hq.keep hH.2.2.2.2.2.1, hH.2.2.2.2.2.2.trans hq⟩
    clear hK
    refine wpSeq_call rfl (by kernel_rfl) (fun K hK => ?_)
    go_simp
    (with_reducible refine (d2 _).mono ?_)
    rintro e w' ⟨rfl, hq⟩
    refine hK.out _ _ ?_ (fun hH => ?_)
    · exact ⟨hq.keep hH.1, hq.keep hH.2.1, hq.keep hH.2.2.1, hq.keep hH.2.2.2.1, hq.keep hH.2.2.2.2.1, hq.keep hH.2.2.2.2.2.1, hH.2.2.2.2.2.2.trans hq⟩
    clear hK
    refine wpSeq_take (d := 8) (v := ?_) rfl rfl (by kernel_rfl) (fun w hS => ?_) ?_
    rotate_left
    · go_simp <;> with_reducible rfl
    dsimp only [List.set_cons_zero, List.set_cons_succ]
    refine wpSeq_take (d := 9) (v := ?_) rfl rfl (by kernel_rfl) (fun w hS => ?_) ?_
    rotate_left
    · go_simp <;> with_reducible rfl
    dsimp only [List.set_cons_zero, List.set_cons_succ]
    refine wpSeq_done ?_
    refine NoPanic.normal ?_
    obtain ⟨z0, z1, z2, z3, z4, z5, g1⟩ := hH
    go_wp2
    go_ret2
    exact ⟨by simp, g0.trans g1⟩
  · go_enter Tryz.func103, Tryz.ntmps103
    go_wp2_with fail
    refine (c1 _).mono ?_
    rintro e w1 ⟨rfl, rfl⟩
    go_wp2_with fail
    refine (c2 _).mono ?_
    rintro e w1 ⟨rfl, rfl⟩
    go_wp2_with fail
    refine (c3 _).mono ?_
    rintro e w1 ⟨rfl, rfl⟩
    go_wp2_with fail
    refine (c4 _).mono ?_
    rintro e w1 ⟨rfl, rfl⟩
    go_wp2_with fail
    have g := Q.refl (w.alloc (.cells #[.bool true, .int .i64 h, .int .i64 a0, .int .i64 b0, .int .i64 a1, .int .i64 b1] 37))
    have g0 := (Q.refl w).alloc #[.bool true, .int .i64 h, .int .i64 a0, .int .i64 b0, .int .i64 a1, .int .i64 b1] 37
    have z0 : (w.alloc (.cells #[.bool true, .int .i64 h, .int .i64 a0, .int .i64 b0, .int .i64 a1, .int .i64 b1] 37)).cell? ⟨w.heap.size, 0, none⟩ = some (.bool true) := by simp [go_sem]
    have z1 : (w.alloc (.cells #[.bool true, .int .i64 h, .int .i64 a0, .int .i64 b0, .int .i64 a1, .int .i64 b1] 37)).cell? ⟨w.heap.size, 1, none⟩ = some (.int .i64 h) := by simp [go_sem]
    have z2 : (w.alloc (.cells #[.bool true, .int .i64 h, .int .i64 a0, .int .i64 b0, .int .i64 a1, .int .i64 b1] 37)).cell? ⟨w.heap.size, 2, none⟩ = some (.int .i64 a0) := by simp [go_sem]
    have z3 : (w.alloc (.cells #[.bool true, .int .i64 h, .int .i64 a0, .int .i64 b0, .int .i64 a1, .int .i64 b1] 37)).cell? ⟨w.heap.size, 3, none⟩ = some (.int .i64 b0) := by simp [go_sem]
    have z4 : (w.alloc (.cells #[.bool true, .int .i64 h, .int .i64 a0, .int .i64 b0, .int .i64 a1, .int .i64 b1] 37)).cell? ⟨w.heap.size, 4, none⟩ = some (.int .i64 a1) := by simp [go_sem]
    have z5 : (w.alloc (.cells #[.bool true, .int .i64 h, .int .i64 a0, .int .i64 b0, .int .i64 a1, .int .i64 b1] 37)).cell? ⟨w.heap.size, 5, none⟩ = some (.int .i64 b1) := by simp [go_sem]
    generalize w.alloc (.cells #[.bool true, .int .i64 h, .int .i64 a0, .int .i64 b0, .int .i64 a1, .int .i64 b1] 37) = WW at *
    obtain ⟨BB, hBB⟩ : ∃ BB, w.heap.size = BB := ⟨_, rfl⟩
    rw [hBB] at z0 z1 z2 z3 z4 z5
    try rw [hBB]
    refine wp_region_noPanic ?_
    refine wp_region_seq (S := fun w' => w'.cell? ⟨BB, 0, none⟩ = some (.bool true) ∧ w'.cell? ⟨BB, 1, none⟩ = some (.int .i64 h) ∧ w'.cell? ⟨BB, 2, none⟩ = some (.int .i64 a0) ∧ w'.cell? ⟨BB, 3, none⟩ = some (.int .i64 b0) ∧ w'.cell? ⟨BB, 4, none⟩ = some (.int .i64 a1) ∧ w'.cell? ⟨BB, 5, none⟩ = some (.int .i64 b1) ∧ Q WW w') [(0, 0), (1, 0), (2, 0), (3, 0), (4, 0), (5, 0), (6, 0), (7, 0), (9, 0), (10, 0), (11, 0), (12, 0), (13, 0), (14, 0), (15, 0), (16, 0), (8, 2), (17, 2), (18, 0), (19, 0)] [0, 1, 0, 4, 0, 0, 32, 0, 218, 0, 512, 0, 2048, 0, 0, 16384, 0, 111872, 131583, 524287] [0, 1, 0, 4, 0, 0, 32, 0, 218, 0, 512, 0, 2048, 0, 0, 16384, 0, 111616, 256, 131072] (by kernel_rfl) (by kernel_rfl) (fun _ _ _ _ _ h => h) ?_ (fun hH => ?_)
    · exact ⟨by simp [go_sem, z0], by simp [go_sem, z1], by simp [go_sem, z2], by simp [go_sem, z3], by simp [go_sem, z4], by simp [go_sem, z5], g.drew⟩
    refine wpSeq_take (d := 42) (v := ?_) rfl rfl (by kernel_rfl) (fun w hS => ?_) ?_
    rotate_left
    · go_simp <;> with_reducible rfl
    dsimp only [List.set_cons_zero, List.set_cons_succ]
    refine wpSeq_take (d := 43) (v := ?_) rfl rfl (by kernel_rfl) (fun w hS => ?_) ?_
    rotate_left
    · go_simp <;> with_reducible rfl
    dsimp only [List.set_cons_zero, List.set_cons_succ]
    refine wpSeq_take (d := 44) (v := ?_) rfl rfl (by kernel_rfl) (fun w hS => ?_) ?_
    rotate_left
    · go_simp <;> with_reducible rfl
    dsimp only [List.set_cons_zero, List.set_cons_succ]
    refine wpSeq_take (d := 45) (v := ?_) rfl rfl (by kernel_rfl) (fun w hS => ?_) ?_
    rotate_left
    · go_simp <;> with_reducible rfl
    dsimp only [List.set_cons_zero, List.set_cons_succ]
    refine wpSeq_take (d := 46) (v := ?_) rfl rfl (by kernel_rfl) (fun w hS => ?_) ?_
    rotate_left
    · go_simp <;> with_reducible rfl
    dsimp only [List.set_cons_zero, List.set_cons_succ]
    refine wpSeq_take (d := 47) (v := ?_) rfl rfl (by kernel_rfl) (fun w hS => ?_) ?_
    rotate_left
    · go_simp <;> with_reducible rfl
    dsimp only [List.set_cons_zero, List.set_cons_succ]
    refine wpSeq_take (d := 48) (v := ?_) rfl rfl (by kernel_rfl) (fun w hS => ?_) ?_
    rotate_left
    · go_simp <;> with_reducible rfl
    dsimp only [List.set_cons_zero, List.set_cons_succ]
    refine wpSeq_take (d := 49) (v := ?_) rfl rfl (by kernel_rfl) (fun w hS => ?_) ?_
    rotate_left
    · go_simp <;> with_reducible rfl
    dsimp only [List.set_cons_zero, List.set_cons_succ]
    refine wpSeq_take (d := 51) (v := ?_) rfl rfl (by kernel_rfl) (fun w hS => ?_) ?_
    rotate_left
    · go_simp <;> with_reducible rfl
    dsimp only [List.set_cons_zero, List.set_cons_succ]
    refine wpSeq_take (d := 52) (v := ?_) rfl rfl (by kernel_rfl) (fun w hS => ?_) ?_
    rotate_left
    · go_simp <;> with_reducible rfl
    dsimp only [List.set_cons_zero, List.set_cons_succ]
    refine wpSeq_take (d := 53) (v := ?_) rfl rfl (by kernel_rfl) (fun w hS => ?_) ?_
    rotate_left
    · go_simp <;> with_reducible rfl
    dsimp only [List.set_cons_zero, List.set_cons_succ]
    refine wpSeq_take (d := 54) (v := ?_) rfl rfl (by kernel_rfl) (fun w hS => ?_) ?_
    rotate_left
    · go_simp <;> with_reducible rfl
    dsimp only [List.set_cons_zero, List.set_cons_succ]
    refine wpSeq_take (d := 55) (v := ?_) rfl rfl (by kernel_rfl) (fun w hS => ?_) ?_
    rotate_left
    · go_simp <;> with_reducible rfl
    dsimp only [List.set_cons_zero, List.set_cons_succ]
    refine wpSeq_take (d := 56) (v := ?_) rfl rfl (by kernel_rfl) (fun w hS => ?_) ?_
    rotate_left
    · go_simp <;> with_reducible rfl
    dsimp only [List.set_cons_zero, List.set_cons_succ]
    refine wpSeq_take (d := 57) (v := ?_) rfl rfl (by kernel_rfl) (fun w hS => ?_) ?_
    rotate_left
    · go_simp <;> with_reducible rfl
    dsimp only [List.set_cons_zero, List.set_cons_succ]
    refine wpSeq_take (d := 58) (v := ?_) rfl rfl (by kernel_rfl) (fun w hS => ?_) ?_
    rotate_left
    · go_simp <;> with_reducible rfl
    dsimp only [List.set_cons_zero, List.set_cons_succ]
    refine wpSeq_call rfl (by kernel_rfl) (fun K hK => ?_)
    go_simp
    (with_reducible refine (d1 _).mono ?_)
    rintro e w' ⟨rfl, hq⟩
    refine hK.out _ _ ?_ (fun hH => ?_)
    · exact ⟨hq.keep hH.1, hq.keep hH.2.1, hq.keep hH.2.2.1, hq.keep hH.2.2.2.1, hq.keep hH.2.2.2.2.1, hq.keep hH.2.2.2.2.2.1, hH.2.2.2.2.2.2.trans hq⟩
    clear hK
    refine wpSeq_call rfl (by kernel_rfl) (fun K hK => ?_)
    go_simp
    (with_reducible refine (d2 _).mono ?_)
    rintro e w' ⟨rfl, hq⟩
    refine hK.out _ _ ?_ (fun hH => ?_)
    · exact ⟨hq.keep hH.1, hq.keep hH.2.1, hq.keep hH.2.2.1, hq.keep hH.2.2.2.1, hq.keep hH.2.2.2.2.1, hq.keep hH.2.2.2.2.2.1, hH.2.2.2.2.2.2.trans hq⟩
    clear hK
    refine wpSeq_take (d := 8) (v := ?_) rfl rfl (by kernel_rfl) (fun w hS => ?_) ?_
    rotate_left
    · go_simp <;> with_reducible rfl
    dsimp only [List.set_cons_zero, List.set_cons_succ]
    refine wpSeq_take (d := 9) (v := ?_) rfl rfl (by kernel_rfl) (fun w hS => ?_) ?_
    rotate_left
    · go_simp <;> with_reducible rfl
    dsimp only [List.set_cons_zero, List.set_cons_succ]
    refine wpSeq_done ?_
    refine NoPanic.normal ?_
    obtain ⟨z0, z1, z2, z3, z4, z5, g1⟩ := hH
    go_wp2
    go_ret2
    exact ⟨by simp, g0.trans g1⟩
end Go.Proofs.YtjdkhobkdlldnaaGreatDoor

namespace Go.Proofs.YtjdkhobkdlldnaaGreatDoor
open Go.RowKit
theorem r3area_any (r : Bool) (a b : Int) (up : Bool) (h0 : 0 ≤ a) (h1 : a ≤ 20000) (h2 : 0 ≤ b) (h3 : b ≤ 20000) (w : World) :
    Calls Tryz.prog 104 #[.bool r, .int .i64 a, .int .i64 b, .bool up] w fun e w' => e = .returned (.int .i64 (areaM r a b up)) ∧ w = w' := by
  have hm := mul_le h0 h1 h2 h3
  have hp := Int.mul_nonneg h0 h2
  have hs := mul_le h0 h1 h0 h1
  have hq := Int.mul_nonneg h0 h0
  unfold areaM
  cases r
  · have e1 : IntKind.i64.wrap (a * b) = a * b := wrapI (by omega) (by omega)
    go_enter Tryz.func104, Tryz.ntmps104
    go_wp2
    go_ret
    exact ⟨by simp, rfl⟩
  · obtain ⟨A, hA⟩ : ∃ A, a * a = A := ⟨_, rfl⟩
    rw [hA] at hs hq ⊢
    have e0 : IntKind.i64.wrap (a * a) = A := by rw [hA]; exact wrapI (by omega) (by omega)
    cases up
    · have e1 : IntKind.i64.wrap (A * 333) = A * 333 := wrapI (by omega) (by omega)
      have e2 : (A * 333).tdiv 424 = A * 333 / 424 := Int.tdiv_eq_ediv_of_nonneg (by omega)
      have e3 : IntKind.i64.wrap (A * 333 / 424) = A * 333 / 424 := wrapI (by omega) (by omega)
      generalize A * 333 / 424 = X at *
      clear hA hs hq hm hp
      go_enter Tryz.func104, Tryz.ntmps104
      go_wp2
      go_ret
      exact ⟨by simp, rfl⟩
    · have e1 : IntKind.i64.wrap (A * 355) = A * 355 := wrapI (by omega) (by omega)
      have e4 : IntKind.i64.wrap (A * 355 + 451) = A * 355 + 451 := wrapI (by omega) (by omega)
      have e2 : (A * 355 + 451).tdiv 452 = (A * 355 + 451) / 452 := Int.tdiv_eq_ediv_of_nonneg (by omega)
      have e3 : IntKind.i64.wrap ((A * 355 + 451) / 452) = (A * 355 + 451) / 452 := wrapI (by omega) (by omega)
      generalize (A * 355 + 451) / 452 = X at *
      clear hA hs hq hm hp
      go_enter Tryz.func104, Tryz.ntmps104
      go_wp2
      go_ret
      exact ⟨by simp, rfl⟩
end Go.Proofs.YtjdkhobkdlldnaaGreatDoor
