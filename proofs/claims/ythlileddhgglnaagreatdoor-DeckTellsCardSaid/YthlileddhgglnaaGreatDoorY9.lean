/-
 Contracts and what they rest on.
-/
import Derived.Lib.MinMax
import Derived.Test.YthlileddhgglnaaGreatDoorChecked
import Derived.KernelRfl
import Derived.Test.YthlileddhgglnaaGreatDoorY8
namespace Go.Proofs.YthlileddhgglnaaGreatDoor
open Go.RowKit
theorem size_any (a : Int) (ha : I64 a) (w : World) :
  Calls Tryz.prog 199 #[.int .i64 a] w fun e w' => e = .returned (.int .u64 (a.natAbs : Int)) ∧ w = w' := by
 unfold I64 at ha
 obtain ⟨h1, h2⟩ := ha
 by_cases hn : a < 0
 ·have e : IntKind.u64.wrap (-IntKind.u64.wrap a) = (a.natAbs : Int) := by rw [wrapU, wrapU]; omega
  go_enter Tryz.func199, Tryz.ntmps199
  go_wp2
  go_ret
  exact ⟨rfl, rfl⟩
 ·have e : IntKind.u64.wrap a = (a.natAbs : Int) := by rw [wrapU]; omega
  go_enter Tryz.func199, Tryz.ntmps199
  go_wp2
  go_ret
  exact ⟨rfl, rfl⟩
theorem signed_any (q : Nat) (hq : q < 18446744073709551616) (neg : Bool) (w : World) :
  Calls Tryz.prog 201 #[.int .u64 q, .bool neg] w fun e w' => e = .returned (.tuple #[.int .i64 (qv (sg neg q)), .int .i64 (qe (sg neg q))]) ∧ w = w' := by
 cases neg
 ·by_cases h : I64 (sg false q)
  ·rw [qv_yes h, qe_yes h]
   rw [sg_fits_pos] at h
   have e : IntKind.i64.wrap (q : Int) = sg false q := by rw [IntKind.wrap_i64]; unfold sg; simp; omega
   have hB : decide ((9223372036854775807 : Int) < (q : Int)) = false := decide_eq_false (by omega)
   clear h
   go_enter Tryz.func201, Tryz.ntmps201
   go_wp2
   go_ret2
   exact ⟨rfl, rfl⟩
  ·rw [qv_no h, qe_no h]
   rw [sg_fits_pos] at h
   have hB : decide ((9223372036854775807 : Int) < (q : Int)) = true := decide_eq_true (by omega)
   clear h
   go_enter Tryz.func201, Tryz.ntmps201
   go_wp2
   go_ret2
   exact ⟨rfl, rfl⟩
 ·by_cases h : I64 (sg true q)
  ·rw [qv_yes h, qe_yes h]
   rw [sg_fits_neg] at h
   have e : IntKind.i64.wrap (IntKind.u64.wrap (-(q : Int))) = sg true q := by rw [IntKind.wrap_i64, wrapU]; unfold sg; simp; omega
   have hB : decide ((9223372036854775808 : Int) < (q : Int)) = false := decide_eq_false (by omega)
   clear h
   go_enter Tryz.func201, Tryz.ntmps201
   go_wp2
   go_ret2
   exact ⟨rfl, rfl⟩
  ·rw [qv_no h, qe_no h]
   rw [sg_fits_neg] at h
   have hB : decide ((9223372036854775808 : Int) < (q : Int)) = true := decide_eq_true (by omega)
   clear h
   go_enter Tryz.func201, Tryz.ntmps201
   go_wp2
   go_ret2
   exact ⟨rfl, rfl⟩
theorem signed_int (x : Int) (q : Nat) (hx : x = (q : Int)) (hq : q < 18446744073709551616) (neg : Bool) (w : World) :
  Calls Tryz.prog 201 #[.int .u64 x, .bool neg] w fun e w' => e = .returned (.tuple #[.int .i64 (qv (sg neg q)), .int .i64 (qe (sg neg q))]) ∧ w = w' := by
 subst hx
 exact signed_any q hq neg w
theorem muldiv_zero (a b : Int) (up : Bool) (w : World) :
  Calls Tryz.prog 193 #[.int .i64 a, .int .i64 b, .int .i64 0, .bool up] w fun e w' => e = .returned (.tuple #[.int .i64 0, .int .i64 22]) ∧ w = w' := by
 go_enter Tryz.func193, Tryz.ntmps193
 go_wp2
 go_ret2
 exact ⟨rfl, rfl⟩
theorem muldiv_any (a b y : Int) (up : Bool) (ha : I64 a) (hb : I64 b) (hy : I64 y) (w : World) :
  Calls Tryz.prog 193 #[.int .i64 a, .int .i64 b, .int .i64 y, .bool up] w fun e w' => e = .returned (.tuple #[.int .i64 (mv a b y up), .int .i64 (me a b y up)]) ∧ Dr w w' := by
 by_cases h0 : y = 0
 ·subst h0
  exact (muldiv_zero a b up w).mono fun _ _ h => ⟨by rw [h.1]; rfl, by rw [h.2]; exact Dr.refl _⟩
 ·have em : mv a b y up = qv (mq a b y up) ∧ me a b y up = qe (mq a b y up) := ⟨if_neg h0, if_neg h0⟩
  rw [em.1, em.2, mq_eq a b y up h0]
  clear em
  have hne : (y == 0) = false := by simpa using h0
  have nbE : (!((!(decide (a < 0) == decide (b < 0))) == decide (y < 0))) = nb a b y := rfl
  generalize nb a b y = neg at *
  have cA := fun w => size_any a ha w
  have cB := fun w => size_any b hb w
  have cY := fun w => size_any y hy w
  have lA := (abs_lt a ha).1
  have lB := (abs_lt b hb).1
  have lY := (abs_lt y hy).1
  have pY : 0 < y.natAbs := by omega
  generalize a.natAbs = A at *
  generalize b.natAbs = B at *
  generalize y.natAbs = Y at *
  have cM := fun w => mul64_any A B lA lB w
  have lH : A * B / 18446744073709551616 < 18446744073709551616 := by
   rw [Nat.div_lt_iff_lt_mul (by omega)]
   have := Nat.mul_le_mul (Nat.le_of_lt_succ lA) (Nat.le_of_lt_succ lB)
   omega
  have lL : A * B % 18446744073709551616 < 18446744073709551616 := Nat.mod_lt _ (by omega)
  have hov := over_early (A * B) Y neg (up != neg)
  have hqs := quot_small (A * B) Y
  have hdq := dq_whole (A * B) Y
  generalize A * B / 18446744073709551616 = H at *
  generalize A * B % 18446744073709551616 = L at *
  generalize A * B = N at *
  by_cases hov' : Y ≤ H
  ·have hf := hov hov' pY
   rw [qv_no hf, qe_no hf]
   have hB : decide (Y ≤ H) = true := decide_eq_true hov'
   clear hf hov hqs hdq ha hb hy h0 hov'
   go_enter Tryz.func193, Tryz.ntmps193
   go_wp2_with fail
   refine (cA _).mono ?_
   rintro e w1 ⟨rfl, rfl⟩
   go_wp2_with fail
   refine (cB _).mono ?_
   rintro e w1 ⟨rfl, rfl⟩
   go_wp2_with fail
   refine (cM _).mono ?_
   rintro e w1 ⟨rfl, rfl⟩
   go_wp2_with fail
   refine (cY _).mono ?_
   rintro e w1 ⟨rfl, rfl⟩
   go_wp2
   go_ret2
   exact ⟨rfl, Dr.refl _⟩
  ·have hB : decide (Y ≤ H) = false := decide_eq_false hov'
   have cD := fun w => div64_any H L Y (by omega) lL lY w
   have hQl := hqs (by omega)
   rw [hdq.1, hdq.2] at cD
   unfold qu
   generalize N / Y = Q at *
   generalize N % Y = R at *
   clear hov hqs hdq ha hb hy h0 hov'
   have ways : (decide (0 < R) = false ∧ (Q + if (up != neg && decide (0 < R)) = true then 1 else 0) = Q) ∨
     ((0 < R ∧ decide (0 < R) = true ∧ decide ((0 : Int) < (R : Int)) = true) ∧ (up = neg ∧ (Q + if (up != neg && decide (0 < R)) = true then 1 else 0) = Q)) ∨
     ((0 < R ∧ decide (0 < R) = true ∧ decide ((0 : Int) < (R : Int)) = true) ∧ (neg = !up) ∧ ((Q : Int) == 18446744073709551615) = false ∧ Q + 1 < 18446744073709551616 ∧ (Q + if (up != neg && decide (0 < R)) = true then 1 else 0) = Q + 1) ∨
     ((0 < R ∧ decide (0 < R) = true ∧ decide ((0 : Int) < (R : Int)) = true) ∧ (neg = !up) ∧ ((Q : Int) == 18446744073709551615) = true ∧ ¬ I64 (sg neg (Q + if (up != neg && decide (0 < R)) = true then 1 else 0))) := by
    by_cases hR : 0 < R
    ·have hR' : decide ((0 : Int) < (R : Int)) = true := decide_eq_true (by omega)
     by_cases hu : up = neg
     ·exact Or.inr (Or.inl ⟨⟨hR, decide_eq_true hR, hR'⟩, hu, by rw [hu]; simp⟩)
     ·have hn : neg = !up := by revert hu; cases up <;> cases neg <;> simp
      have hc : (up != neg && decide (0 < R)) = true := by rw [hn]; simp [hR]
      by_cases hQ : Q = 18446744073709551615
      ·refine Or.inr (Or.inr (Or.inr ⟨⟨hR, decide_eq_true hR, hR'⟩, hn, by rw [beq_iff_eq]; omega, ?_⟩))
       rw [if_pos hc]
       cases neg
       ·rw [sg_fits_pos]; omega
       ·rw [sg_fits_neg]; omega
      ·refine Or.inr (Or.inr (Or.inl ⟨⟨hR, decide_eq_true hR, hR'⟩, hn, by rw [beq_eq_false_iff_ne]; omega, by omega, ?_⟩))
       rw [if_pos hc]
    ·exact Or.inl ⟨decide_eq_false hR, by simp [hR]⟩
   rcases ways with ⟨k1, k2⟩ | ⟨⟨k0, k1, k1'⟩, k3, k2⟩ | ⟨⟨k0, k1, k1'⟩, k3, k4, k5, k2⟩ | ⟨⟨k0, k1, k1'⟩, k3, k4, k2⟩
   ·rw [k2]
    clear k2
    go_enter Tryz.func193, Tryz.ntmps193
    go_wp2_with fail
    refine (cA _).mono ?_
    rintro e w1 ⟨rfl, rfl⟩
    go_wp2_with fail
    refine (cB _).mono ?_
    rintro e w1 ⟨rfl, rfl⟩
    go_wp2_with fail
    refine (cM _).mono ?_
    rintro e w1 ⟨rfl, rfl⟩
    go_wp2_with fail
    refine (cY _).mono ?_
    rintro e w1 ⟨rfl, rfl⟩
    go_wp2_with fail
    refine (cD _).mono ?_
    rintro e w2 ⟨rfl, hw2⟩
    go_wp2_with fail
    refine (signed_int _ Q rfl hQl neg _).mono ?_
    rintro e w3 ⟨rfl, rfl⟩
    go_wp2
    go_ret2
    exact ⟨rfl, hw2⟩
   ·rw [k2]
    subst k3
    clear k2
    cases up
    all_goals
     go_enter Tryz.func193, Tryz.ntmps193
     go_wp2_with fail
     refine (cA _).mono ?_
     rintro e w1 ⟨rfl, rfl⟩
     go_wp2_with fail
     refine (cB _).mono ?_
     rintro e w1 ⟨rfl, rfl⟩
     go_wp2_with fail
     refine (cM _).mono ?_
     rintro e w1 ⟨rfl, rfl⟩
     go_wp2_with fail
     refine (cY _).mono ?_
     rintro e w1 ⟨rfl, rfl⟩
     go_wp2_with fail
     refine (cD _).mono ?_
     rintro e w2 ⟨rfl, hw2⟩
     go_wp2_with fail
     refine (signed_int _ Q rfl hQl _ _).mono ?_
     rintro e w3 ⟨rfl, rfl⟩
     go_wp2
     go_ret2
     exact ⟨rfl, hw2⟩
   ·rw [k2]
    subst k3
    clear k2
    cases up
    all_goals
     go_enter Tryz.func193, Tryz.ntmps193
     go_wp2_with fail
     refine (cA _).mono ?_
     rintro e w1 ⟨rfl, rfl⟩
     go_wp2_with fail
     refine (cB _).mono ?_
     rintro e w1 ⟨rfl, rfl⟩
     go_wp2_with fail
     refine (cM _).mono ?_
     rintro e w1 ⟨rfl, rfl⟩
     go_wp2_with fail
     refine (cY _).mono ?_
     rintro e w1 ⟨rfl, rfl⟩
     go_wp2_with fail
     refine (cD _).mono ?_
     rintro e w2 ⟨rfl, hw2⟩
     go_wp2_with fail
     refine (signed_int _ (Q + 1) (by omega) k5 _ _).mono ?_
     rintro e w3 ⟨rfl, rfl⟩
     go_wp2
     go_ret2
     exact ⟨rfl, hw2⟩
   ·rw [qv_no k2, qe_no k2]
    subst k3
    clear k2
    cases up
    all_goals
     go_enter Tryz.func193, Tryz.ntmps193
     go_wp2_with fail
     refine (cA _).mono ?_
     rintro e w1 ⟨rfl, rfl⟩
     go_wp2_with fail
     refine (cB _).mono ?_
     rintro e w1 ⟨rfl, rfl⟩
     go_wp2_with fail
     refine (cM _).mono ?_
     rintro e w1 ⟨rfl, rfl⟩
     go_wp2_with fail
     refine (cY _).mono ?_
     rintro e w1 ⟨rfl, rfl⟩
     go_wp2_with fail
     refine (cD _).mono ?_
     rintro e w2 ⟨rfl, hw2⟩
     go_wp2
     go_ret2
     exact ⟨rfl, hw2⟩
end Go.Proofs.YthlileddhgglnaaGreatDoor
namespace Go.Proofs.YthlileddhgglnaaGreatDoor
open Go.RowKit
def SideC : Prop := ∀ (r : Bool) (h a0 b0 a1 b1 at_ : Int) (up : Bool) (w : World), Sec.I ⟨r, h, a0, b0, a1, b1⟩ → I64 at_ →
 Calls Tryz.prog 182 #[.agg #[.bool r, .int .i64 h, .int .i64 a0, .int .i64 b0, .int .i64 a1, .int .i64 b1], .int .i64 at_, .bool up] w fun e w' =>
  e = .returned (.tuple #[.int .i64 (sideOf ⟨r, h, a0, b0, a1, b1⟩ at_ up).1, .int .i64 (sideOf ⟨r, h, a0, b0, a1, b1⟩ at_ up).2]) ∧ B w w'
theorem between_any (x0 x1 at_ h : Int) (up : Bool) (a0 : 0 ≤ x0) (b0 : x0 ≤ 20000) (a1 : 0 ≤ x1) (b1 : x1 ≤ 20000) (h0 : 0 ≤ at_) (h1 : at_ ≤ h) (hh : 1 ≤ h) (hI : I64 h) (w : World) :
  Calls Tryz.prog 192 #[.int .i64 x0, .int .i64 x1, .int .i64 at_, .int .i64 h, .bool up] w fun e w' => e = .returned (.int .i64 (sideM x0 x1 at_ h up)) ∧ Q w w' := by
 obtain ⟨f1, f2, f3, f4⟩ := side_fits a0 b0 a1 b1 h0 h1 hh up
 have c := fun w => muldiv_any (x1 - x0) at_ h up (by unfold I64; omega) (by unfold I64 at *; omega) hI w
 have e1 : IntKind.i64.wrap (x1 - x0) = x1 - x0 := wrapI (by omega) (by omega)
 unfold sideM at *
 generalize mv (x1 - x0) at_ h up = g at *
 generalize me (x1 - x0) at_ h up = g' at *
 have e2 : IntKind.i64.wrap (x0 + g) = x0 + g := wrapI (by omega) (by omega)
 clear f1 f2 f3 f4
 go_enter Tryz.func192, Tryz.ntmps192
 go_wp2_with fail
 refine (c _).mono ?_
 rintro e w1 ⟨rfl, h⟩
 go_wp2
 go_ret
 exact ⟨rfl, h.q⟩
set_option maxHeartbeats 2000000 in
theorem side_code : SideC := by
 intro r h a0 b0 a1 b1 at_ up w hI hat
 obtain ⟨i1, i2, i3, i4, i5⟩ := hI
 simp only at i1 i2 i3 i4 i5
 have cB := fun w => bounded_any r h a0 b0 a1 b1 w
 by_cases hh : h < 1
 ·have hB : decide (h < 1) = true := decide_eq_true hh
  have e : sideOf ⟨r, h, a0, b0, a1, b1⟩ at_ up = (0, 0) := if_neg (fun x => by have := x.1; simp only at this; omega)
  rw [e]
  go_enter Tryz.func182, Tryz.ntmps182
  go_wp2
  go_ret2
  exact ⟨rfl, ((Q.refl w).alloc _ _).b⟩
 have hB : decide (h < 1) = false := decide_eq_false hh
 by_cases hb : boundS ⟨r, h, a0, b0, a1, b1⟩ = true
 ·rw [hb] at cB
  unfold boundS at hb
  simp only [Bool.and_eq_true] at hb
  obtain ⟨⟨⟨q1, q2⟩, q3⟩, q4⟩ := hb
  have e : sideOf ⟨r, h, a0, b0, a1, b1⟩ at_ up = (sideM a0 a1 (min (max at_ 0) h) h up, if r then 0 else sideM b0 b1 (min (max at_ 0) h) h up) := if_pos ⟨by simp only; omega, q1, q3, q2, q4⟩
  rw [e]
  clear e
  unfold inB at q1 q2 q3 q4
  simp only [Bool.and_eq_true, decide_eq_true_eq] at q1 q2 q3 q4
  obtain ⟨p, hp⟩ : ∃ p, max at_ 0 = p := ⟨_, rfl⟩
  obtain ⟨q, hq⟩ : ∃ q, min p h = q := ⟨_, rfl⟩
  rw [hp, hq]
  have c1 := fun w => between_any a0 a1 q h up q1.1 q1.2 q3.1 q3.2 (by omega) (by omega) (by omega) i1 w
  have c2 := fun w => between_any b0 b1 q h up q2.1 q2.2 q4.1 q4.2 (by omega) (by omega) (by omega) i1 w
  clear q1 q2 q3 q4 i1 i2 i3 i4 i5 hat hh
  cases r
  ·go_enter Tryz.func182, Tryz.ntmps182
   go_wp2_with fail
   refine (cB _).mono ?_
   rintro e w1 ⟨rfl, g⟩
   have z0 := g.keep (p := ⟨w.heap.size, 0, none⟩) (v := .bool false) (by simp [go_sem])
   have z1 := g.keep (p := ⟨w.heap.size, 1, none⟩) (v := .int .i64 h) (by simp [go_sem])
   have z2 := g.keep (p := ⟨w.heap.size, 2, none⟩) (v := .int .i64 a0) (by simp [go_sem])
   have z3 := g.keep (p := ⟨w.heap.size, 3, none⟩) (v := .int .i64 b0) (by simp [go_sem])
   have z4 := g.keep (p := ⟨w.heap.size, 4, none⟩) (v := .int .i64 a1) (by simp [go_sem])
   have z5 := g.keep (p := ⟨w.heap.size, 5, none⟩) (v := .int .i64 b1) (by simp [go_sem])
   replace g := ((Q.refl w).alloc _ _).trans g
   go_wp2_with fail
   refine (c1 _).mono ?_
   rintro e w2 ⟨rfl, g2⟩
   replace z0 := g2.keep z0
   replace z1 := g2.keep z1
   replace z2 := g2.keep z2
   replace z3 := g2.keep z3
   replace z4 := g2.keep z4
   replace z5 := g2.keep z5
   replace g := g.trans g2
   clear g2
   go_wp2_with fail
   refine (c2 _).mono ?_
   rintro e w3 ⟨rfl, g2⟩
   replace g := g.trans g2
   clear g2
   go_wp2
   go_ret2
   exact ⟨by simp, g.b⟩
  ·go_enter Tryz.func182, Tryz.ntmps182
   go_wp2_with fail
   refine (cB _).mono ?_
   rintro e w1 ⟨rfl, g⟩
   have z0 := g.keep (p := ⟨w.heap.size, 0, none⟩) (v := .bool true) (by simp [go_sem])
   have z1 := g.keep (p := ⟨w.heap.size, 1, none⟩) (v := .int .i64 h) (by simp [go_sem])
   have z2 := g.keep (p := ⟨w.heap.size, 2, none⟩) (v := .int .i64 a0) (by simp [go_sem])
   have z3 := g.keep (p := ⟨w.heap.size, 3, none⟩) (v := .int .i64 b0) (by simp [go_sem])
   have z4 := g.keep (p := ⟨w.heap.size, 4, none⟩) (v := .int .i64 a1) (by simp [go_sem])
   have z5 := g.keep (p := ⟨w.heap.size, 5, none⟩) (v := .int .i64 b1) (by simp [go_sem])
   replace g := ((Q.refl w).alloc _ _).trans g
   go_wp2_with fail
   refine (c1 _).mono ?_
   rintro e w2 ⟨rfl, g2⟩
   replace z0 := g2.keep z0
   replace z1 := g2.keep z1
   replace z2 := g2.keep z2
   replace z3 := g2.keep z3
   replace z4 := g2.keep z4
   replace z5 := g2.keep z5
   replace g := g.trans g2
   clear g2
   go_wp2
   go_ret2
   exact ⟨by simp, g.b⟩
 ·have e : sideOf ⟨r, h, a0, b0, a1, b1⟩ at_ up = (0, 0) := if_neg (fun x => hb (by unfold boundS; simp [x.2.1, x.2.2.1, x.2.2.2.1, x.2.2.2.2]))
  have eb : boundS ⟨r, h, a0, b0, a1, b1⟩ = false := by simpa using hb
  rw [e]
  rw [eb] at cB
  clear hb e eb
  go_enter Tryz.func182, Tryz.ntmps182
  go_wp2_with fail
  refine (cB _).mono ?_
  rintro e w1 ⟨rfl, g⟩
  replace g := ((Q.refl w).alloc _ _).trans g
  go_wp2
  go_ret2
  exact ⟨rfl, g.b⟩
end Go.Proofs.YthlileddhgglnaaGreatDoor
namespace Go.Proofs.YthlileddhgglnaaGreatDoor
open Go.RowKit
theorem mv_low (A : Int) (h0 : 0 ≤ A) (h1 : A ≤ 400000000) : mv A 333 424 false = A * 333 / 424 := by
 rw [mv, if_neg (by omega), mq_pos _ _ _ (by omega), mdQ, if_neg (by decide), qv_yes (by unfold I64; omega)]
theorem mv_high (A : Int) (h0 : 0 ≤ A) (h1 : A ≤ 400000000) : mv A 355 452 true = (A * 355 + 451) / 452 := by
 rw [mv, if_neg (by omega), mq_pos _ _ _ (by omega), mdQ, if_pos (by decide), qv_yes (by unfold I64; omega)]
 omega
theorem carea_any (r : Bool) (a b : Int) (up : Bool) (h0 : 0 ≤ a) (h1 : a ≤ 20000) (h2 : 0 ≤ b) (h3 : b ≤ 20000) (w : World) :
  Calls Tryz.prog 183 #[.bool r, .int .i64 a, .int .i64 b, .bool up] w fun e w' => e = .returned (.int .i64 (areaM r a b up)) ∧ B w w' := by
 have hm := mul_le h0 h1 h2 h3
 have hp := Int.mul_nonneg h0 h2
 have hs := mul_le h0 h1 h0 h1
 have hq := Int.mul_nonneg h0 h0
 unfold areaM
 cases r
 ·have e1 : IntKind.i64.wrap (a * b) = a * b := wrapI (by omega) (by omega)
  go_enter Tryz.func183, Tryz.ntmps183
  go_wp2
  go_ret
  exact ⟨by simp, B.refl _⟩
 ·obtain ⟨A, hA⟩ : ∃ A, a * a = A := ⟨_, rfl⟩
  rw [hA] at hs hq ⊢
  have e0 : IntKind.i64.wrap (a * a) = A := by rw [hA]; exact wrapI (by omega) (by omega)
  cases up
  ·have c := fun w => muldiv_any A 333 424 false (by unfold I64; omega) (by decide) (by decide) w
   rw [mv_low A hq (by omega)] at c
   generalize A * 333 / 424 = X at *
   generalize me A 333 424 false = E at *
   clear hA hs hq hm hp
   go_enter Tryz.func183, Tryz.ntmps183
   go_wp2_with fail
   refine (c _).mono ?_
   rintro e w1 ⟨rfl, g⟩
   go_wp2
   go_ret
   exact ⟨by simp, g.q.b⟩
  ·have c := fun w => muldiv_any A 355 452 true (by unfold I64; omega) (by decide) (by decide) w
   rw [mv_high A hq (by omega)] at c
   generalize (A * 355 + 451) / 452 = X at *
   generalize me A 355 452 true = E at *
   clear hA hs hq hm hp
   go_enter Tryz.func183, Tryz.ntmps183
   go_wp2_with fail
   refine (c _).mono ?_
   rintro e w1 ⟨rfl, g⟩
   go_wp2
   go_ret
   exact ⟨by simp, g.q.b⟩
theorem cbound_low (r : Bool) (h a0 b0 a1 b1 T : Int) (w : World) (hI : Sec.I ⟨r, h, a0, b0, a1, b1⟩) (h0 : 0 ≤ T) (h1 : T ≤ 60000) :
  Calls Tryz.prog 169 #[.agg #[.bool r, .int .i64 h, .int .i64 a0, .int .i64 b0, .int .i64 a1, .int .i64 b1], .int .i64 T, .bool false] w fun e w' =>
   e = .returned (.int .i64 (lowA ⟨r, h, a0, b0, a1, b1⟩ T)) ∧ B w w' := by
 have eT : IntKind.i64.wrap (T + 100) = T + 100 := wrapI (by omega) (by omega)
 have c1 := fun w => side_code r h a0 b0 a1 b1 T false w hI (by unfold I64; omega)
 have c2 := fun w => side_code r h a0 b0 a1 b1 (T + 100) false w hI (by unfold I64; omega)
 obtain ⟨q1, q2, q3, q4⟩ := sideOf_any ⟨r, h, a0, b0, a1, b1⟩ T false
 obtain ⟨q5, q6, q7, q8⟩ := sideOf_any ⟨r, h, a0, b0, a1, b1⟩ (T + 100) false
 have hX : lowA ⟨r, h, a0, b0, a1, b1⟩ T = areaM r (min (sideOf ⟨r, h, a0, b0, a1, b1⟩ T false).1 (sideOf ⟨r, h, a0, b0, a1, b1⟩ (T + 100) false).1) (min (sideOf ⟨r, h, a0, b0, a1, b1⟩ T false).2 (sideOf ⟨r, h, a0, b0, a1, b1⟩ (T + 100) false).2) false := rfl
 generalize lowA ⟨r, h, a0, b0, a1, b1⟩ T = X at *
 generalize (sideOf ⟨r, h, a0, b0, a1, b1⟩ T false).1 = p1 at *
 generalize (sideOf ⟨r, h, a0, b0, a1, b1⟩ T false).2 = p2 at *
 generalize (sideOf ⟨r, h, a0, b0, a1, b1⟩ (T + 100) false).1 = p3 at *
 generalize (sideOf ⟨r, h, a0, b0, a1, b1⟩ (T + 100) false).2 = p4 at *
 obtain ⟨m1, e1⟩ : ∃ m, min p1 p3 = m := ⟨_, rfl⟩
 obtain ⟨m2, e2⟩ : ∃ m, min p2 p4 = m := ⟨_, rfl⟩
 rw [e1, e2] at hX
 have c3 := fun w => carea_any r m1 m2 false (by omega) (by omega) (by omega) (by omega) w
 rw [← hX] at c3
 clear hX q1 q2 q3 q4 q5 q6 q7 q8 hI h0 h1
 go_enter Tryz.func169, Tryz.ntmps169
 go_wp2_with fail
 refine (c1 _).mono ?_
 rintro e w1 ⟨rfl, g⟩
 have z0 := g.keep (p := ⟨w.heap.size, 0, none⟩) (v := .bool r) (by simp [go_sem])
 have z1 := g.keep (p := ⟨w.heap.size, 1, none⟩) (v := .int .i64 h) (by simp [go_sem])
 have z2 := g.keep (p := ⟨w.heap.size, 2, none⟩) (v := .int .i64 a0) (by simp [go_sem])
 have z3 := g.keep (p := ⟨w.heap.size, 3, none⟩) (v := .int .i64 b0) (by simp [go_sem])
 have z4 := g.keep (p := ⟨w.heap.size, 4, none⟩) (v := .int .i64 a1) (by simp [go_sem])
 have z5 := g.keep (p := ⟨w.heap.size, 5, none⟩) (v := .int .i64 b1) (by simp [go_sem])
 replace g := ((B.refl w).alloc _ _).trans g
 go_wp2_with fail
 refine (c2 _).mono ?_
 rintro e w2 ⟨rfl, g2⟩
 replace z0 := g2.keep z0
 replace g := g.trans g2
 go_wp2_with fail
 refine (c3 _).mono ?_
 rintro e w3 ⟨rfl, g3⟩
 replace g := g.trans g3
 go_wp2
 go_ret
 exact ⟨rfl, g⟩
theorem cbound_high (r : Bool) (h a0 b0 a1 b1 T : Int) (w : World) (hI : Sec.I ⟨r, h, a0, b0, a1, b1⟩) (h0 : 0 ≤ T) (h1 : T ≤ 60000) :
  Calls Tryz.prog 169 #[.agg #[.bool r, .int .i64 h, .int .i64 a0, .int .i64 b0, .int .i64 a1, .int .i64 b1], .int .i64 T, .bool true] w fun e w' =>
   e = .returned (.int .i64 (highA ⟨r, h, a0, b0, a1, b1⟩ T)) ∧ B w w' := by
 have eT : IntKind.i64.wrap (T + 100) = T + 100 := wrapI (by omega) (by omega)
 have c1 := fun w => side_code r h a0 b0 a1 b1 T true w hI (by unfold I64; omega)
 have c2 := fun w => side_code r h a0 b0 a1 b1 (T + 100) true w hI (by unfold I64; omega)
 obtain ⟨q1, q2, q3, q4⟩ := sideOf_any ⟨r, h, a0, b0, a1, b1⟩ T true
 obtain ⟨q5, q6, q7, q8⟩ := sideOf_any ⟨r, h, a0, b0, a1, b1⟩ (T + 100) true
 have hX : highA ⟨r, h, a0, b0, a1, b1⟩ T = areaM r (max (sideOf ⟨r, h, a0, b0, a1, b1⟩ T true).1 (sideOf ⟨r, h, a0, b0, a1, b1⟩ (T + 100) true).1) (max (sideOf ⟨r, h, a0, b0, a1, b1⟩ T true).2 (sideOf ⟨r, h, a0, b0, a1, b1⟩ (T + 100) true).2) true := rfl
 generalize highA ⟨r, h, a0, b0, a1, b1⟩ T = X at *
 generalize (sideOf ⟨r, h, a0, b0, a1, b1⟩ T true).1 = p1 at *
 generalize (sideOf ⟨r, h, a0, b0, a1, b1⟩ T true).2 = p2 at *
 generalize (sideOf ⟨r, h, a0, b0, a1, b1⟩ (T + 100) true).1 = p3 at *
 generalize (sideOf ⟨r, h, a0, b0, a1, b1⟩ (T + 100) true).2 = p4 at *
 obtain ⟨m1, e1⟩ : ∃ m, max p1 p3 = m := ⟨_, rfl⟩
 obtain ⟨m2, e2⟩ : ∃ m, max p2 p4 = m := ⟨_, rfl⟩
 rw [e1, e2] at hX
 have c3 := fun w => carea_any r m1 m2 true (by omega) (by omega) (by omega) (by omega) w
 rw [← hX] at c3
 clear hX q1 q2 q3 q4 q5 q6 q7 q8 hI h0 h1
 go_enter Tryz.func169, Tryz.ntmps169
 go_wp2_with fail
 refine (c1 _).mono ?_
 rintro e w1 ⟨rfl, g⟩
 have z0 := g.keep (p := ⟨w.heap.size, 0, none⟩) (v := .bool r) (by simp [go_sem])
 have z1 := g.keep (p := ⟨w.heap.size, 1, none⟩) (v := .int .i64 h) (by simp [go_sem])
 have z2 := g.keep (p := ⟨w.heap.size, 2, none⟩) (v := .int .i64 a0) (by simp [go_sem])
 have z3 := g.keep (p := ⟨w.heap.size, 3, none⟩) (v := .int .i64 b0) (by simp [go_sem])
 have z4 := g.keep (p := ⟨w.heap.size, 4, none⟩) (v := .int .i64 a1) (by simp [go_sem])
 have z5 := g.keep (p := ⟨w.heap.size, 5, none⟩) (v := .int .i64 b1) (by simp [go_sem])
 replace g := ((B.refl w).alloc _ _).trans g
 go_wp2_with fail
 refine (c2 _).mono ?_
 rintro e w2 ⟨rfl, g2⟩
 replace z0 := g2.keep z0
 replace g := g.trans g2
 go_wp2_with fail
 refine (c3 _).mono ?_
 rintro e w3 ⟨rfl, g3⟩
 replace g := g.trans g3
 go_wp2
 go_ret
 exact ⟨rfl, g⟩
set_option maxHeartbeats 4000000 in
theorem cbounds_any (r : Bool) (h a0 b0 a1 b1 T : Int) (w : World) (hI : Sec.I ⟨r, h, a0, b0, a1, b1⟩) (h0 : 0 ≤ T) (h1 : T ≤ 60000) (hk : secOk ⟨r, h, a0, b0, a1, b1⟩ = true) :
  Calls Tryz.prog 150 #[.agg #[.bool r, .int .i64 h, .int .i64 a0, .int .i64 b0, .int .i64 a1, .int .i64 b1], .int .i64 T] w fun e w' =>
   e = .returned (.tuple #[.int .i64 (100 * lowA ⟨r, h, a0, b0, a1, b1⟩ T), .int .i64 (100 * highA ⟨r, h, a0, b0, a1, b1⟩ T)]) ∧ B w w' := by
 have c1 := fun w => cbound_low r h a0 b0 a1 b1 T w hI h0 h1
 have c2 := fun w => cbound_high r h a0 b0 a1 b1 T w hI h0 h1
 obtain ⟨x1, x2, x3, x4⟩ := slice_bounds hk T h0
 generalize lowA ⟨r, h, a0, b0, a1, b1⟩ T = X at *
 generalize highA ⟨r, h, a0, b0, a1, b1⟩ T = Y at *
 have e1 : IntKind.i64.wrap (100 * X) = 100 * X := wrapI (by omega) (by omega)
 have e2 : IntKind.i64.wrap (100 * Y) = 100 * Y := wrapI (by omega) (by omega)
 clear x1 x2 x3 x4 hI hk h0 h1
 go_enter Tryz.func150, Tryz.ntmps150
 go_wp2_with fail
 refine wp_region_noPanic ?_
 refine wp_region_seq (S := fun w' => w'.cell? ⟨w.heap.size, 0, none⟩ = some (.bool r) ∧ w'.cell? ⟨w.heap.size, 1, none⟩ = some (.int .i64 h) ∧ w'.cell? ⟨w.heap.size, 2, none⟩ = some (.int .i64 a0) ∧ w'.cell? ⟨w.heap.size, 3, none⟩ = some (.int .i64 b0) ∧ w'.cell? ⟨w.heap.size, 4, none⟩ = some (.int .i64 a1) ∧ w'.cell? ⟨w.heap.size, 5, none⟩ = some (.int .i64 b1) ∧ B w w') [(0, 0), (1, 0), (4, 0), (5, 0), (2, 2), (3, 0), (6, 2), (7, 0), (8, 0), (9, 0)] [0, 0, 3, 4, 0, 0, 52, 64, 79, 511] [0, 0, 3, 4, 0, 0, 48, 64, 8, 128] (by kernel_rfl) (by kernel_rfl) (fun _ _ _ _ _ h => h) ?_ (fun hH => ?_)
 ·exact ⟨by simp [go_sem], by simp [go_sem], by simp [go_sem], by simp [go_sem], by simp [go_sem], by simp [go_sem], ((B.refl w).alloc _ _).drew⟩
 refine wpSeq_take (d := 6) rfl rfl (by kernel_rfl) (fun w hS => by go_simp <;> with_reducible rfl) ?_
 dsimp only [sZ, sS]
 refine wpSeq_take (d := 7) rfl rfl (by kernel_rfl) (fun w hS => by go_simp <;> with_reducible rfl) ?_
 dsimp only [sZ, sS]
 refine wpSeq_take (d := 10) rfl rfl (by kernel_rfl) (fun w hS => by go_simp <;> with_reducible rfl) ?_
 dsimp only [sZ, sS]
 refine wpSeq_take (d := 11) rfl rfl (by kernel_rfl) (fun w hS => by go_simp <;> with_reducible rfl) ?_
 dsimp only [sZ, sS]
 refine wpSeq_call rfl (by kernel_rfl) (fun K hK => ?_)
 go_simp
 (with_reducible refine (c1 _).mono ?_)
 rintro e w' ⟨rfl, hq⟩
 refine hK.out _ _ ?_ (fun hH => ?_)
 ·exact ⟨hq.keep hH.1, hq.keep hH.2.1, hq.keep hH.2.2.1, hq.keep hH.2.2.2.1, hq.keep hH.2.2.2.2.1, hq.keep hH.2.2.2.2.2.1, hH.2.2.2.2.2.2.trans hq⟩
 clear hK
 refine wpSeq_take (d := 9) rfl rfl (by kernel_rfl) (fun w hS => by go_simp <;> with_reducible rfl) ?_
 dsimp only [sZ, sS]
 refine wpSeq_call rfl (by kernel_rfl) (fun K hK => ?_)
 go_simp
 (with_reducible refine (c2 _).mono ?_)
 rintro e w' ⟨rfl, hq⟩
 refine hK.out _ _ ?_ (fun hH => ?_)
 ·exact ⟨hq.keep hH.1, hq.keep hH.2.1, hq.keep hH.2.2.1, hq.keep hH.2.2.2.1, hq.keep hH.2.2.2.2.1, hq.keep hH.2.2.2.2.2.1, hH.2.2.2.2.2.2.trans hq⟩
 clear hK
 refine wpSeq_take (d := 13) rfl rfl (by kernel_rfl) (fun w hS => by go_simp <;> with_reducible rfl) ?_
 dsimp only [sZ, sS]
 refine wpSeq_take (d := 4) rfl rfl (by kernel_rfl) (fun w hS => by go_simp <;> with_reducible rfl) ?_
 dsimp only [sZ, sS]
 refine wpSeq_take (d := 5) rfl rfl (by kernel_rfl) (fun w hS => by go_simp <;> with_reducible rfl) ?_
 dsimp only [sZ, sS]
 refine wpSeq_done ?_
 refine NoPanic.normal ?_
 go_wp2
 go_ret2
 exact ⟨rfl, hH.2.2.2.2.2.2⟩
theorem below_any (f : Nat → Int) (hf : f 0 = 0) (a : Addr) (n c : Nat) (h1 : 1 ≤ n) (h2 : n ≤ 600) (i : Int) (w : World) (hx : ∀ k, k < n → w.cell? (a.add k) = some (.int .i64 (f (k + 1)))) :
  Calls Tryz.prog 77 #[.slice (some a) n c, .int .i64 i] w fun e w' => e = .returned (.int .i64 (f (nearI n i))) ∧ B w w' := by
 obtain ⟨m, e1⟩ : ∃ m, min i (n : Int) = m := ⟨_, rfl⟩
 by_cases hi : i ≤ 0
 ·have hm : decide (m ≤ 0) = true := decide_eq_true (by omega)
  have hn : nearI n i = 0 := by unfold nearI; omega
  rw [hn, hf]
  clear hx hn
  go_enter Tryz.func77, Tryz.ntmps77
  go_wp2
  go_ret
  exact ⟨rfl, B.refl _⟩
 ·have hm : decide (m ≤ 0) = false := decide_eq_false (by omega)
  obtain ⟨k, hk⟩ : ∃ k : Nat, m = (k : Int) + 1 := ⟨(m - 1).toNat, by omega⟩
  have hn : nearI n i = k + 1 := by unfold nearI; omega
  have hkn : k < n := by omega
  have e2 : IntKind.i64.wrap (m - 1) = (k : Int) := by rw [show m - 1 = (k : Int) by omega]; exact wrapI (by omega) (by omega)
  have hkI : (k : Int) < (n : Int) := by omega
  have hc := hx k hkn
  rw [hn]
  generalize f (k + 1) = X at *
  clear hx hn hk hi
  go_enter Tryz.func77, Tryz.ntmps77
  go_wp2
  go_ret
  exact ⟨rfl, B.refl _⟩
end Go.Proofs.YthlileddhgglnaaGreatDoor
namespace Go.Proofs.YthlileddhgglnaaGreatDoor
open Go.RowKit
inductive Ord where
 | done : Ord
 | step : Nat → Nat → Ord → Ord
 | fork : Nat → Ord → Nat → Ord → Ord
def Ord.len : Ord → Nat
 | .done => 0
 | .step _ _ l => l.len + 1
 | .fork _ l _ _ => l.len + 1
def seqOkF (n g : Nat) (am cf later : List Nat) : Ord → Nat → Bool
 | .done, done => (List.range n).all done.testBit
 | .step i k l, done => decide (i < n) && !done.testBit i && (am.getD i 0 &&& done == am.getD i 0) &&
   (if k = 2 ∨ k = 4 then (List.range n).all (fun j => j == i || done.testBit j || !(am.getD j 0 &&& done == am.getD j 0)) else (cf.getD i 0 &&& done == cf.getD i 0) && i != g) &&
   (if k = 0 then laterOk am i (later.getD i 0) && (later.getD i 0).testBit g else if k = 2 then i != g && !done.testBit g else if k = 4 then i == g || done.testBit g else true) && seqOkF n g am cf later l (done ||| 2 ^ i)
 | .fork i l j r, done => decide (i < n) && decide (j < n) && !done.testBit i && !done.testBit j && (am.getD i 0 &&& done == am.getD i 0) && (am.getD j 0 &&& done == am.getD j 0) &&
   (List.range n).all (fun x => x == i || x == j || done.testBit x || !(am.getD x 0 &&& done == am.getD x 0)) && i != g && j != g && !done.testBit g && l.len == r.len && seqOkF n g am cf later l (done ||| 2 ^ i) && seqOkF n g am cf later r (done ||| 2 ^ j)
def wpSeqF (P : Program) (ops : Array Oper) (Q : Exit → Act → World → Prop) (S : World → Prop) : Ord → Act → World → Prop
 | .done, a, w => Q .normal a w
 | .fork i l j r, a, w => wpOp P ops Q i (fun a' w' => S w' ∧ wpSeqF P ops Q S l a' w') a w ∧ wpOp P ops Q j (fun a' w' => S w' ∧ wpSeqF P ops Q S r a' w') a w
 | .step i k l, a, w => ∃ o, ops[i]? = some o ∧
   (if k = 0 then ∃ v, (Region.wanted o (yielded ops a.tmps) = true ∧ ∀ w, S w → (execOp a.eval o).run P w = .ok (.value v) w) ∧ wpSeqF P ops Q S l (a.put o.dst v) w
   else if k = 1 then Region.wanted o (yielded ops a.tmps) = false ∧ wpSeqF P ops Q S l (a.put o.dst undef) w
   else if k = 2 then wpOp P ops Q i (fun a' w' => S w' ∧ wpSeqF P ops Q S l a' w') a w
   else if k = 3 then ∃ v, (Region.wanted o (yielded ops a.tmps) = true ∧ ∀ w, (execOp a.eval o).run P w = .ok (.value v) w) ∧ wpSeqF P ops Q S l (a.put o.dst v) w
   else k = 4 ∧ wpOp P ops Q i (fun a' w' => wpSeqF P ops Q S l a' w') a w)
theorem wpAnyF_seq {P : Program} {md : Region.Mode} {ops : Array Oper} {Q : Exit → Act → World → Prop} {S : World → Prop} (g : Nat) (am cf later : List Nat) (hgn : g < ops.size)
  (ham : ops.toList.map (amOf md) = am) (hcf : cfAll md ops ops.toList 0 = cf) (hs : Region.noSelect ops = true)
  (hQ : ∀ c a w d v, Q (.panic c) (Act.put a d v) w → Q (.panic c) a w) :
  ∀ (l : Ord) (done : Nat) (listed : Array Bool) (a : Act) (w : World), Inv ops.size listed done → Closed md ops listed → seqOkF ops.size g am cf later l done = true → (done.testBit g = false → S w) →
   wpSeqF P ops Q S l a w → wpAnyG P md ops Q S g l.len listed a w := by
 have am_get : ∀ (i : Nat) (o : Oper), ops[i]? = some o → am.getD i 0 = amOf md o := by
  intro i o ho
  rw [← ham, List.getD_eq_getElem?_getD, List.getElem?_map, Array.getElem?_toList, ho]; rfl
 have am_len : am.length = ops.size := by rw [← ham]; simp
 have cf_get : ∀ (i : Nat) (o : Oper), ops[i]? = some o → cf.getD i 0 = cfOf md ops o i ops.toList 0 := by
  intro i o ho
  rw [← hcf, List.getD_eq_getElem?_getD, cfAll_get md ops ops.toList 0 i o (by rw [Array.getElem?_toList]; exact ho), Nat.zero_add]; rfl
 have is_ready : ∀ (i done : Nat) (listed : Array Bool) (o : Oper), Inv ops.size listed done → ops[i]? = some o → done.testBit i = false → (am.getD i 0 &&& done == am.getD i 0) = true → i ∈ Region.ready md ops listed := by
  intro i done listed o hI ho hd ha
  have hin : i < ops.size := (Array.getElem?_eq_some_iff.1 ho).1
  refine mem_ready.2 ⟨by rw [hI.getT hin]; exact hd, o, ho, fun e he hb => ?_⟩
  rw [hI.getF]
  rw [am_get i o ho] at ha
  exact sub_bits ha e.on ((amOf_bit md o e.on).2 ⟨e, he, hb, rfl⟩)
 have ready_is : ∀ (i done : Nat) (listed : Array Bool), Inv ops.size listed done → i ∈ Region.ready md ops listed → i < ops.size ∧ done.testBit i = false ∧ (am.getD i 0 &&& done == am.getD i 0) = true := by
  intro i done listed hI hr
  obtain ⟨h1, o, ho, h2⟩ := mem_ready.1 hr
  have hin : i < ops.size := (Array.getElem?_eq_some_iff.1 ho).1
  refine ⟨hin, by rw [← hI.getT hin]; exact h1, ?_⟩
  rw [am_get i o ho]
  refine bits_sub fun k hk => ?_
  obtain ⟨e, he, hb, rfl⟩ := (amOf_bit md o k).1 hk
  rw [← hI.getF]
  exact h2 e he hb
 intro l
 induction l with
 | done =>
  intro done listed a w hI _ hk _ h
  refine ⟨?_, h⟩
  refine List.eq_nil_iff_forall_not_mem.2 fun i hi => ?_
  obtain ⟨h1, h2, _⟩ := ready_is i done listed hI hi
  have := List.all_eq_true.1 hk i (List.mem_range.2 h1)
  rw [h2] at this
  cases this
 | fork i l j r ihl ihr =>
  intro done listed a w hI hcl hk hS h
  unfold seqOkF at hk
  simp only [Bool.and_eq_true, decide_eq_true_eq, Bool.not_eq_true', bne_iff_ne, beq_iff_eq] at hk
  obtain ⟨⟨⟨⟨⟨⟨⟨⟨⟨⟨⟨⟨k1, k1'⟩, k2⟩, k2'⟩, k3⟩, k3'⟩, k4⟩, k5⟩, k5'⟩, k6⟩, k7⟩, k8⟩, k8'⟩ := hk
  have gi : ops[i]? = some ops[i] := Array.getElem?_eq_getElem k1
  have gj : ops[j]? = some ops[j] := Array.getElem?_eq_getElem k1'
  have ri := is_ready i done listed _ hI gi k2 (by rw [beq_iff_eq]; exact k3)
  have rj := is_ready j done listed _ hI gj k2' (by rw [beq_iff_eq]; exact k3')
  refine ⟨fun e => (by rw [e] at ri; cases ri), fun x hx => ?_⟩
  obtain ⟨q1, q2, q3⟩ := ready_is x done listed hI hx
  have hd := List.all_eq_true.1 k4 x (List.mem_range.2 q1)
  rw [q2, q3] at hd
  simp only [Bool.not_true, Bool.or_false, Bool.or_eq_true, beq_iff_eq] at hd
  by_cases hxi : x = i
  ·subst hxi
   exact wpOp_mono (fun a' w' h' => ⟨fun _ _ => h'.1, ihl _ _ _ _ (hI.set k1) (hcl.set ri) k8 (fun _ => h'.1) h'.2⟩) h.1
  ·have hxj : x = j := by
    rcases hd with hd | hd
    ·exact absurd hd hxi
    ·exact hd
   subst hxj
   have e := wpOp_mono (fun a' w' h' => (⟨fun _ _ => h'.1, ihr _ _ _ _ (hI.set k1') (hcl.set rj) k8' (fun _ => h'.1) h'.2⟩ : (x ≠ g → listed.getD g false = false → S w') ∧ wpAnyG P md ops Q S g r.len (listed.setIfInBounds x true) a' w')) h.2
   rw [← k7] at e
   exact e
 | step i k l ih =>
  intro done listed a w hI hcl hk hS h
  unfold seqOkF at hk
  simp only [Bool.and_eq_true, decide_eq_true_eq, Bool.not_eq_true'] at hk
  obtain ⟨⟨⟨⟨⟨k1, k2⟩, k3⟩, k4⟩, k5⟩, k6⟩ := hk
  obtain ⟨o, ho, h⟩ := h
  have hr := is_ready i done listed o hI ho k2 k3
  have hI' := hI.set k1
  have hcl' := hcl.set hr
  have gbit : ∀ j, j ≠ g → (done ||| 2 ^ j).testBit g = done.testBit g := fun j hj => by
   rw [Nat.testBit_or, testBit_pow]
   simp [hj]
  have hfree : ¬ (k = 2 ∨ k = 4) → i ≠ g ∧ ∀ j oj, ops[j]? = some oj → j ≠ i → listed.getD j true = false → (∀ e ∈ oj.after, Region.binds md e = true → e.on ≠ i) → o.apart ops oj = true := by
   intro hk2
   rw [if_neg hk2] at k4
   simp only [Bool.and_eq_true, bne_iff_ne] at k4
   refine ⟨k4.2, ?_⟩
   intro j oj hj hji hun hno
   cases c : o.apart ops oj
   ·exfalso
    have hjn : j < ops.size := (Array.getElem?_eq_some_iff.1 hj).1
    have hb : (amOf md oj).testBit i = false := by
     cases e : (amOf md oj).testBit i
     ·rfl
     ·obtain ⟨x, hx, hxb, hxi⟩ := (amOf_bit md oj i).1 e
      exact absurd hxi (hno x hx hxb)
    have k4' := k4.1
    rw [cf_get i o ho] at k4'
    have := sub_bits k4' j (cfOf_bit md ops o i j oj hji hb c ops.toList 0 j (by rw [Array.getElem?_toList]; exact hj) (Nat.zero_add _))
    rw [hI.getT hjn, this] at hun
    cases hun
   ·rfl
  have only : (k = 2 ∨ k = 4) → ∀ j ∈ Region.ready md ops listed, j = i := by
   intro hk2 j hj
   rw [if_pos hk2] at k4
   obtain ⟨q1, q2, q3⟩ := ready_is j done listed hI hj
   have := List.all_eq_true.1 k4 j (List.mem_range.2 q1)
   rw [q2, q3] at this
   simpa using this
  have hSl : listed.getD g false = false → S w := fun hg => hS (by rw [← hI.getF]; exact hg)
  by_cases c0 : k = 0
  ·subst c0
   obtain ⟨hig, hfr⟩ := hfree (by omega)
   rw [if_pos rfl] at h k5
   simp only [Bool.and_eq_true] at k5
   obtain ⟨v, ⟨hw, hv⟩, h⟩ := h
   have hB := behind_of (g := g) am ham i (later.getD i 0) k5.1 k5.2 (Ne.symm hig) (by omega)
   obtain ⟨hg1, _⟩ := hB listed hcl (mem_ready.1 hr).1
   exact wpAnyG_first (T := S) ho (Region.noSelect_spec hs) hig (.inr ⟨fun _ h => h, hB⟩) (fun c a w h => hQ c a w _ _ h) l.len listed a w hcl hfr hr (Or.inl ⟨hw, hv⟩) (hSl hg1) hSl
    (ih _ _ _ _ hI' hcl' k6 (fun hg => hSl hg1) h)
  rw [if_neg c0] at h
  by_cases c1 : k = 1
  ·subst c1
   obtain ⟨hig, hfr⟩ := hfree (by omega)
   rw [if_pos rfl] at h
   exact wpAnyG_first (T := fun _ => True) ho (Region.noSelect_spec hs) hig (.inl fun _ => trivial) (fun c a w h => hQ c a w _ _ h) l.len listed a w hcl hfr hr (Or.inr ⟨h.1, rfl⟩) trivial hSl
    (ih _ _ _ _ hI' hcl' k6 (fun hg => hS (by rw [gbit i hig] at hg; exact hg)) h.2)
  rw [if_neg c1] at h
  by_cases c2 : k = 2
  ·subst c2
   rw [if_pos rfl] at h
   simp only [if_neg c0, if_true, Bool.and_eq_true, bne_iff_ne, Bool.not_eq_true'] at k5
   refine ⟨fun e => (by rw [e] at hr; cases hr), fun j hj => ?_⟩
   obtain rfl := only (Or.inl rfl) j hj
   exact wpOp_mono (fun a' w' h' => ⟨fun _ _ => h'.1, ih _ _ _ _ hI' hcl' k6 (fun _ => h'.1) h'.2⟩) h
  rw [if_neg c2] at h
  by_cases c3 : k = 3
  ·subst c3
   obtain ⟨hig, hfr⟩ := hfree (by omega)
   rw [if_pos rfl] at h
   obtain ⟨v, ⟨hw, hv⟩, h⟩ := h
   exact wpAnyG_first (T := fun _ => True) ho (Region.noSelect_spec hs) hig (.inl fun _ => trivial) (fun c a w h => hQ c a w _ _ h) l.len listed a w hcl hfr hr (Or.inl ⟨hw, fun w _ => hv w⟩) trivial hSl
    (ih _ _ _ _ hI' hcl' k6 (fun hg => hS (by rw [gbit i hig] at hg; exact hg)) h)
  rw [if_neg c3] at h
  obtain ⟨c4, h⟩ := h
  subst c4
  simp only [if_neg c0, if_neg c2, if_true, Bool.or_eq_true, beq_iff_eq] at k5
  refine ⟨fun e => (by rw [e] at hr; cases hr), fun j hj => ?_⟩
  obtain rfl := only (Or.inr rfl) j hj
  have hdone : (done ||| 2 ^ j).testBit g = true := by
   rw [Nat.testBit_or, testBit_pow]
   rcases k5 with rfl | k5
   ·simp
   ·rw [k5]; rfl
  have hls : listed.getD g false = false → j = g := fun hg => by
   rcases k5 with k5 | k5
   ·exact k5
   ·rw [hI.getF, k5] at hg; cases hg
  exact wpOp_mono (fun a' w' h' => ⟨fun hjg hg => absurd (hls hg) hjg, ih _ _ _ _ hI' hcl' k6 (fun hg => by rw [hdone] at hg; cases hg) h'⟩) h
theorem wp_region_fork {P : Program} {ops : Array Oper} {Q : Exit → Act → World → Prop} {S : World → Prop} {id : Nat} {a : Act} {w : World} (g : Nat) (l : Ord) (am cf later : List Nat) (hm : P.follows .mixedOrders = true)
  (hk : (Region.noSelect ops && decide (l.len = ops.size) && decide (g < ops.size) && decide (ops.toList.map (amOf .any) = am) && decide (cfAll .any ops ops.toList 0 = cf) && seqOkF ops.size g am cf later l 0) = true)
  (hQ : ∀ c a w d v, Q (.panic c) (Act.put a d v) w → Q (.panic c) a w) (hS : S w.drew)
  (h : S w.drew → wpSeqF P ops Q S l a w.drew) : (Code.region id ops true).wp P Q a w := by
 simp only [Bool.and_eq_true, decide_eq_true_eq] at hk
 obtain ⟨⟨⟨⟨⟨h1, h2⟩, hg⟩, h3⟩, h4⟩, h5⟩ := hk
 refine wp_region_any hm ?_
 rw [← h2]
 refine wpAny_of_gate (S := S) (g := g) _ _ _ _ ?_
 have := wpAnyF_seq (P := P) (md := .any) (S := S) g am cf later hg h3 h4 h1 hQ l 0 (Array.replicate ops.size false) a w.drew (Inv.start _) (fun j oj hj hl => by
  rw [Array.getD_eq_getD_getElem?, Array.getElem?_replicate] at hl
  split at hl <;> simp at hl) h5 (fun _ => hS) (h hS)
 rw [h2] at this ⊢
 exact this
theorem wpSeqF_take {P : Program} {ops : Array Oper} {Q : Exit → Act → World → Prop} {S : World → Prop} {l : Ord} {t : List Value} {df : List _} {w : World} {i d : Nat} {o : Oper} {v : Value}
  (ho : ops.toList[i]? = some o) (hd : o.dst = some d) (hw : Region.wanted o (yielded ops t.toArray) = true)
  (hy : ∀ w, S w → (execOp (Act.eval { tmps := t.toArray, defers := df }) o).run P w = .ok (.value v) w)
  (h : wpSeqF P ops Q S l { tmps := (t.set d v).toArray, defers := df } w) : wpSeqF P ops Q S (.step i 0 l) { tmps := t.toArray, defers := df } w := by
 refine ⟨o, by rw [← Array.getElem?_toList]; exact ho, ?_⟩
 rw [if_pos rfl]
 refine ⟨v, ⟨hw, hy⟩, ?_⟩
 have e : Act.put { tmps := t.toArray, defers := df } o.dst v = { tmps := (t.set d v).toArray, defers := df } := by
  rw [hd]; simp [Act.put]
 rw [e]
 exact h
theorem wpSeqF_free {P : Program} {ops : Array Oper} {Q : Exit → Act → World → Prop} {S : World → Prop} {l : Ord} {t : List Value} {df : List _} {w : World} {i d : Nat} {o : Oper} {v : Value}
  (ho : ops.toList[i]? = some o) (hd : o.dst = some d) (hw : Region.wanted o (yielded ops t.toArray) = true)
  (hy : ∀ w, (execOp (Act.eval { tmps := t.toArray, defers := df }) o).run P w = .ok (.value v) w)
  (h : wpSeqF P ops Q S l { tmps := (t.set d v).toArray, defers := df } w) : wpSeqF P ops Q S (.step i 3 l) { tmps := t.toArray, defers := df } w := by
 refine ⟨o, by rw [← Array.getElem?_toList]; exact ho, ?_⟩
 rw [if_neg (by decide), if_neg (by decide), if_neg (by decide), if_pos rfl]
 refine ⟨v, ⟨hw, hy⟩, ?_⟩
 have e : Act.put { tmps := t.toArray, defers := df } o.dst v = { tmps := (t.set d v).toArray, defers := df } := by
  rw [hd]; simp [Act.put]
 rw [e]
 exact h
theorem wpSeqF_call {P : Program} {ops : Array Oper} {Q : Exit → Act → World → Prop} {S : World → Prop} {l : Ord} {a : Act} {w : World} {i : Nat} {o : Oper}
  (ho : ops.toList[i]? = some o) (hw : Region.wanted o (yielded ops a.tmps) = true)
  (h : ∀ K' : Act → World → Prop, Shut (∀ a w, S w → (S w → wpSeqF P ops Q S l a w) → K' a w) → Oper.wp P o a w K' Q) : wpSeqF P ops Q S (.step i 2 l) a w := by
 rw [Array.getElem?_toList] at ho
 refine ⟨o, ho, ?_⟩
 rw [if_neg (by decide), if_neg (by decide), if_pos rfl]
 refine wpOp_step ho fun K' hK => ?_
 rw [if_pos hw]
 exact h K' fun a w hS h => hK a w ⟨hS, h hS⟩
theorem wpSeqF_gate {P : Program} {ops : Array Oper} {Q : Exit → Act → World → Prop} {S : World → Prop} {l : Ord} {a : Act} {w : World} {i : Nat} {o : Oper}
  (ho : ops.toList[i]? = some o) (hw : Region.wanted o (yielded ops a.tmps) = true)
  (h : ∀ K' : Act → World → Prop, Shut (∀ a w, wpSeqF P ops Q S l a w → K' a w) → Oper.wp P o a w K' Q) : wpSeqF P ops Q S (.step i 4 l) a w := by
 rw [Array.getElem?_toList] at ho
 refine ⟨o, ho, ?_⟩
 rw [if_neg (by decide), if_neg (by decide), if_neg (by decide), if_neg (by decide)]
 refine ⟨rfl, wpOp_step ho fun K' hK => ?_⟩
 rw [if_pos hw]
 exact h K' fun a w h => hK a w h
theorem wpSeqF_done {P : Program} {ops : Array Oper} {Q : Exit → Act → World → Prop} {S : World → Prop} {a : Act} {w : World} (h : Q .normal a w) : wpSeqF P ops Q S .done a w := h
theorem wpSeqF_fork {P : Program} {ops : Array Oper} {Q : Exit → Act → World → Prop} {S : World → Prop} {l r : Ord} {a : Act} {w : World} {i j : Nat} {o o' : Oper}
  (ho : ops.toList[i]? = some o) (ho' : ops.toList[j]? = some o') (hw : Region.wanted o (yielded ops a.tmps) = true) (hw' : Region.wanted o' (yielded ops a.tmps) = true)
  (h : ∀ K' : Act → World → Prop, Shut (∀ a w, S w → (S w → wpSeqF P ops Q S l a w) → K' a w) → Oper.wp P o a w K' Q)
  (h' : ∀ K' : Act → World → Prop, Shut (∀ a w, S w → (S w → wpSeqF P ops Q S r a w) → K' a w) → Oper.wp P o' a w K' Q) : wpSeqF P ops Q S (.fork i l j r) a w := by
 rw [Array.getElem?_toList] at ho ho'
 refine ⟨wpOp_step ho fun K' hK => ?_, wpOp_step ho' fun K' hK => ?_⟩
 ·rw [if_pos hw]
  exact h K' fun a w hS h => hK a w ⟨hS, h hS⟩
 ·rw [if_pos hw']
  exact h' K' fun a w hS h => hK a w ⟨hS, h hS⟩
end Go.Proofs.YthlileddhgglnaaGreatDoor
namespace Go.Proofs.YthlileddhgglnaaGreatDoor
open Go.RowKit
def HeightC : Prop := ∀ (v : Value) (l : List Sec) (w : World), IsSecs w v l → rightS l = true → Calls Tryz.prog 149 #[v] w fun e w' => e = .returned (.int .i64 (hsumI l l.length)) ∧ B w w'
set_option maxHeartbeats 1000000 in
theorem height_code : HeightC := by
 intro v l w hv hr
 obtain ⟨hl1, hl4, hok⟩ := right_all hr
 have hsm : ∀ k, k ≤ l.length → 0 ≤ hsumI l k ∧ hsumI l k ≤ 240000 := fun k hk => by
  have h := hsum_small l k (by unfold okTo; rw [List.all_eq_true]; exact fun s hs => hok s (List.mem_of_mem_take hs))
  omega
 rcases hv with ⟨rfl, rfl⟩ | ⟨a, cap, rfl, h2, h3, h4⟩
 ·simp at hl1
 clear hr hok hl1 h2 h3
 go_enter Tryz.func149, Tryz.ntmps149
 go_wp2
 go_loopw [3, 8] (fun hh i wr => ∃ (k : Nat), k ≤ l.length ∧ i = .int .i64 k ∧ hh = .int .i64 (hsumI l k) ∧ Q w wr) (fun _ i _ => l.length - (intOf i).toNat)
 case atStart => exact ⟨0, Nat.zero_le _, rfl, rfl, Q.refl w⟩
 case round =>
  obtain ⟨k, hk, rfl, rfl, hq⟩ := hrel
  by_cases hl : k < l.length
  ·have hlB : decide (k < l.length) = true := decide_eq_true hl
   have hg := List.getElem?_eq_getElem hl
   have hs := (h4 k _ hg).2.keep hq
   have hsu := hsumI_succ l k _ hg
   obtain ⟨m1, m2⟩ := hsm (k + 1) (by omega)
   rw [hsu] at m1 m2
   clear h4 hsm
   generalize l[k] = s at *
   generalize hsumI l k = t at *
   obtain ⟨f0, f1, f2, f3, f4, f5⟩ := hs
   have HS := Lib.hid hsu
   have HM := Lib.hid hg
   clear hsu hg
   have e1 : IntKind.i64.wrap (t + s.h) = t + s.h := wrapI (by omega) (by omega)
   go_wp2
   go_roundw
   case rel => exact ⟨k + 1, by omega, by go_num, by rw [HS.out], hq.alloc _ _⟩
   case measure => simp [intOf]; omega
  ·have hlB : decide (k < l.length) = false := decide_eq_false hl
   obtain rfl : k = l.length := by omega
   clear h4 hsm
   go_wp2
   go_ret
   exact ⟨rfl, hq.b⟩
end Go.Proofs.YthlileddhgglnaaGreatDoor
