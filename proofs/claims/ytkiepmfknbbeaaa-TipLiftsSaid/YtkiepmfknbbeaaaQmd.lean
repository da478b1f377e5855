/-
  Contracts of layer 1: the product by a number.
-/
import Derived.Test.YtkiepmfknbbeaaaQmul
import Derived.Test.YtkiepmfknbbeaaaQdivw
namespace Go.Proofs.Ytkiepmfknbbeaaa
open Go.RowKit

theorem size_any (a : Int) (ha : I64 a) (w : World) :
    Calls Try.prog 75 #[.int .i64 a] w fun e w' => e = .returned (.int .u64 (a.natAbs : Int)) ∧ w = w' := by
  unfold I64 at ha
  obtain ⟨h1, h2⟩ := ha
  by_cases hn : a < 0
  · have e : IntKind.u64.wrap (-IntKind.u64.wrap a) = (a.natAbs : Int) := by rw [wrapU, wrapU]; omega
    go_enter Try.func75, Try.ntmps75
    go_wp2
    go_ret
    exact ⟨rfl, rfl⟩
  · have e : IntKind.u64.wrap a = (a.natAbs : Int) := by rw [wrapU]; omega
    go_enter Try.func75, Try.ntmps75
    go_wp2
    go_ret
    exact ⟨rfl, rfl⟩

theorem signed_any (q : Nat) (hq : q < 18446744073709551616) (neg : Bool) (w : World) :
    Calls Try.prog 77 #[.int .u64 q, .bool neg] w fun e w' => e = .returned (.tuple #[.int .i64 (qv (sg neg q)), .int .i64 (qe (sg neg q))]) ∧ w = w' := by
  cases neg
  · by_cases h : I64 (sg false q)
    · rw [qv_yes h, qe_yes h]
      rw [sg_fits_pos] at h
      have e : IntKind.i64.wrap (q : Int) = sg false q := by rw [IntKind.wrap_i64]; unfold sg; simp; omega
      have hB : decide ((9223372036854775807 : Int) < (q : Int)) = false := decide_eq_false (by omega)
      clear h
      go_enter Try.func77, Try.ntmps77
      go_wp2
      go_ret2
      exact ⟨rfl, rfl⟩
    · rw [qv_no h, qe_no h]
      rw [sg_fits_pos] at h
      have hB : decide ((9223372036854775807 : Int) < (q : Int)) = true := decide_eq_true (by omega)
      clear h
      go_enter Try.func77, Try.ntmps77
      go_wp2
      go_ret2
      exact ⟨rfl, rfl⟩
  · by_cases h : I64 (sg true q)
    · rw [qv_yes h, qe_yes h]
      rw [sg_fits_neg] at h
      have e : IntKind.i64.wrap (IntKind.u64.wrap (-(q : Int))) = sg true q := by rw [IntKind.wrap_i64, wrapU]; unfold sg; simp; omega
      have hB : decide ((9223372036854775808 : Int) < (q : Int)) = false := decide_eq_false (by omega)
      clear h
      go_enter Try.func77, Try.ntmps77
      go_wp2
      go_ret2
      exact ⟨rfl, rfl⟩
    · rw [qv_no h, qe_no h]
      rw [sg_fits_neg] at h
      have hB : decide ((9223372036854775808 : Int) < (q : Int)) = true := decide_eq_true (by omega)
      clear h
      go_enter Try.func77, Try.ntmps77
      go_wp2
      go_ret2
      exact ⟨rfl, rfl⟩

/-- As a caller spells the amount. -/
theorem signed_int (x : Int) (q : Nat) (hx : x = (q : Int)) (hq : q < 18446744073709551616) (neg : Bool) (w : World) :
    Calls Try.prog 77 #[.int .u64 x, .bool neg] w fun e w' => e = .returned (.tuple #[.int .i64 (qv (sg neg q)), .int .i64 (qe (sg neg q))]) ∧ w = w' := by
  subst hx
  exact signed_any q hq neg w

theorem muldiv_zero (a b : Int) (up : Bool) (w : World) :
    Calls Try.prog 66 #[.int .i64 a, .int .i64 b, .int .i64 0, .bool up] w fun e w' => e = .returned (.tuple #[.int .i64 0, .int .i64 22]) ∧ w = w' := by
  go_enter Try.func66, Try.ntmps66
  go_wp2
  go_ret2
  exact ⟨rfl, rfl⟩

theorem muldiv_any (a b y : Int) (up : Bool) (ha : I64 a) (hb : I64 b) (hy : I64 y) (w : World) :
    Calls Try.prog 66 #[.int .i64 a, .int .i64 b, .int .i64 y, .bool up] w fun e w' => e = .returned (.tuple #[.int .i64 (mv a b y up), .int .i64 (me a b y up)]) ∧ Dr w w' := by
  by_cases h0 : y = 0
  · subst h0
    exact (muldiv_zero a b up w).mono fun _ _ h => ⟨by rw [h.1]; rfl, by rw [h.2]; exact Dr.refl _⟩
  · have em : mv a b y up = qv (mq a b y up) ∧ me a b y up = qe (mq a b y up) := ⟨if_neg h0, if_neg h0⟩
    rw [em.1, em.2, mq_eq a b y up h0]
    clear em
    have hne : (y == 0) = false := by simpa using h0
    have nbE : (!((!(decide (a < 0) == decide (b < 0))) == decide (y < 0))) = nb a b y := rfl
    generalize nb a b y = neg at *
    have cA := fun w => size_any a ha w
    have cB := fun w => size_any b hb w
    have cY := fun w => size_any y hy w
    have lA := (abs_lt a ha).1
    have lB := (abs_lt b hb).1
    have lY := (abs_lt y hy).1
    have pY : 0 < y.natAbs := by omega
    generalize a.natAbs = A at *
    generalize b.natAbs = B at *
    generalize y.natAbs = Y at *
    have cM := fun w => mul64_any A B lA lB w
    have lH : A * B / 18446744073709551616 < 18446744073709551616 := by
      rw [Nat.div_lt_iff_lt_mul (by omega)]
      have := Nat.mul_le_mul (Nat.le_of_lt_succ lA) (Nat.le_of_lt_succ lB)
      omega
    have lL : A * B % 18446744073709551616 < 18446744073709551616 := Nat.mod_lt _ (by omega)
    have hov := over_early (A * B) Y neg (up != neg)
    have hqs := quot_small (A * B) Y
    have hdq := dq_whole (A * B) Y
    generalize A * B / 18446744073709551616 = H at *
    generalize A * B % 18446744073709551616 = L at *
    generalize A * B = N at *
    by_cases hov' : Y ≤ H
    · have hf := hov hov' pY
      rw [qv_no hf, qe_no hf]
      have hB : decide (Y ≤ H) = true := decide_eq_true hov'
      clear hf hov hqs hdq ha hb hy h0 hov'
      go_enter Try.func66, Try.ntmps66
      go_wp2_with fail
      refine (cA _).mono ?_
      rintro e w1 ⟨rfl, rfl⟩
      go_wp2_with fail
      refine (cB _).mono ?_
      rintro e w1 ⟨rfl, rfl⟩
      go_wp2_with fail
      refine (cM _).mono ?_
      rintro e w1 ⟨rfl, rfl⟩
      go_wp2_with fail
      refine (cY _).mono ?_
      rintro e w1 ⟨rfl, rfl⟩
      go_wp2
      go_ret2
      exact ⟨rfl, Dr.refl _⟩
    · have hB : decide (Y ≤ H) = false := decide_eq_false hov'
      have cD := fun w => div64_any H L Y (by omega) lL lY w
      have hQl := hqs (by omega)
      rw [hdq.1, hdq.2] at cD
      unfold qu
      generalize N / Y = Q at *
      generalize N % Y = R at *
      clear hov hqs hdq ha hb hy h0 hov'
      have ways : (decide (0 < R) = false ∧ (Q + if (up != neg && decide (0 < R)) = true then 1 else 0) = Q) ∨
          ((0 < R ∧ decide (0 < R) = true ∧ decide ((0 : Int) < (R : Int)) = true) ∧ (up = neg ∧ (Q + if (up != neg && decide (0 < R)) = true then 1 else 0) = Q)) ∨
          ((0 < R ∧ decide (0 < R) = true ∧ decide ((0 : Int) < (R : Int)) = true) ∧ (neg = !up) ∧ ((Q : Int) == 18446744073709551615) = false ∧ Q + 1 < 18446744073709551616 ∧ (Q + if (up != neg && decide (0 < R)) = true then 1 else 0) = Q + 1) ∨
          ((0 < R ∧ decide (0 < R) = true ∧ decide ((0 : Int) < (R : Int)) = true) ∧ (neg = !up) ∧ ((Q : Int) == 18446744073709551615) = true ∧ ¬ I64 (sg neg (Q + if (up != neg && decide (0 < R)) = true then 1 else 0))) := by
        by_cases hR : 0 < R
        · have hR' : decide ((0 : Int) < (R : Int)) = true := decide_eq_true (by omega)
          by_cases hu : up = neg
          · exact Or.inr (Or.inl ⟨⟨hR, decide_eq_true hR, hR'⟩, hu, by rw [hu]; simp⟩)
          · have hn : neg = !up := by revert hu; cases up <;> cases neg <;> simp
            have hc : (up != neg && decide (0 < R)) = true := by rw [hn]; simp [hR]
            by_cases hQ : Q = 18446744073709551615
            · refine Or.inr (Or.inr (Or.inr ⟨⟨hR, decide_eq_true hR, hR'⟩, hn, by rw [beq_iff_eq]; omega, ?_⟩))
              rw [if_pos hc]
              cases neg
              · rw [sg_fits_pos]; omega
              · rw [sg_fits_neg]; omega
            · refine Or.inr (Or.inr (Or.inl ⟨⟨hR, decide_eq_true hR, hR'⟩, hn, by rw [beq_eq_false_iff_ne]; omega, by omega, ?_⟩))
              rw [if_pos hc]
        · exact Or.inl ⟨decide_eq_false hR, by simp [hR]⟩
      rcases ways with ⟨k1, k2⟩ | ⟨⟨k0, k1, k1'⟩, k3, k2⟩ | ⟨⟨k0, k1, k1'⟩, k3, k4, k5, k2⟩ | ⟨⟨k0, k1, k1'⟩, k3, k4, k2⟩
      · rw [k2]
        clear k2
        go_enter Try.func66, Try.ntmps66
        go_wp2_with fail
        refine (cA _).mono ?_
        rintro e w1 ⟨rfl, rfl⟩
        go_wp2_with fail
        refine (cB _).mono ?_
        rintro e w1 ⟨rfl, rfl⟩
        go_wp2_with fail
        refine (cM _).mono ?_
        rintro e w1 ⟨rfl, rfl⟩
        go_wp2_with fail
        refine (cY _).mono ?_
        rintro e w1 ⟨rfl, rfl⟩
        go_wp2_with fail
        refine (cD _).mono ?_
        rintro e w2 ⟨rfl, hw2⟩
        go_wp2_with fail
        refine (signed_int _ Q rfl hQl neg _).mono ?_
        rintro e w3 ⟨rfl, rfl⟩
        go_wp2
        go_ret2
        exact ⟨rfl, hw2⟩
      · rw [k2]
        subst k3
        clear k2
        cases up
        all_goals
          go_enter Try.func66, Try.ntmps66
          go_wp2_with fail
          refine (cA _).mono ?_
          rintro e w1 ⟨rfl, rfl⟩
          go_wp2_with fail
          refine (cB _).mono ?_
          rintro e w1 ⟨rfl, rfl⟩
          go_wp2_with fail
          refine (cM _).mono ?_
          rintro e w1 ⟨rfl, rfl⟩
          go_wp2_with fail
          refine (cY _).mono ?_
          rintro e w1 ⟨rfl, rfl⟩
          go_wp2_with fail
          refine (cD _).mono ?_
          rintro e w2 ⟨rfl, hw2⟩
          go_wp2_with fail
          refine (signed_int _ Q rfl hQl _ _).mono ?_
          rintro e w3 ⟨rfl, rfl⟩
          go_wp2
          go_ret2
          exact ⟨rfl, hw2⟩
      · rw [k2]
        subst k3
        clear k2
        cases up
        all_goals
          go_enter Try.func66, Try.ntmps66
          go_wp2_with fail
          refine (cA _).mono ?_
          rintro e w1 ⟨rfl, rfl⟩
          go_wp2_with fail
          refine (cB _).mono ?_
          rintro e w1 ⟨rfl, rfl⟩
          go_wp2_with fail
          refine (cM _).mono ?_
          rintro e w1 ⟨rfl, rfl⟩
          go_wp2_with fail
          refine (cY _).mono ?_
          rintro e w1 ⟨rfl, rfl⟩
          go_wp2_with fail
          refine (cD _).mono ?_
          rintro e w2 ⟨rfl, hw2⟩
          go_wp2_with fail
          refine (signed_int _ (Q + 1) (by omega) k5 _ _).mono ?_
          rintro e w3 ⟨rfl, rfl⟩
          go_wp2
          go_ret2
          exact ⟨rfl, hw2⟩
      · rw [qv_no k2, qe_no k2]
        subst k3
        clear k2
        cases up
        all_goals
          go_enter Try.func66, Try.ntmps66
          go_wp2_with fail
          refine (cA _).mono ?_
          rintro e w1 ⟨rfl, rfl⟩
          go_wp2_with fail
          refine (cB _).mono ?_
          rintro e w1 ⟨rfl, rfl⟩
          go_wp2_with fail
          refine (cM _).mono ?_
          rintro e w1 ⟨rfl, rfl⟩
          go_wp2_with fail
          refine (cY _).mono ?_
          rintro e w1 ⟨rfl, rfl⟩
          go_wp2_with fail
          refine (cD _).mono ?_
          rintro e w2 ⟨rfl, hw2⟩
          go_wp2
          go_ret2
          exact ⟨rfl, hw2⟩

end Go.Proofs.Ytkiepmfknbbeaaa
