/-
  Layer 1: the walk of MathBetween.
-/
import Derived.Test.YtfopgblhkophpaaL1a
import Derived.Test.YtfopgblhkophpaaQlaw
namespace Go.Proofs.Ytfopgblhkophpaa
open Go.RowKit

theorem i32_range {k : Int} (w : (Lit.int .i32 k).wf = true) : -2147483648 ≤ k ∧ k ≤ 2147483647 := by
  simp [Lit.wf, IntKind.min, IntKind.max, IntKind.signed, IntKind.bits] at w
  omega

theorem prod_range (a b : Int) (ha : -2147483648 ≤ a ∧ a ≤ 2147483647) (hb : -2147483648 ≤ b ∧ b ≤ 2147483647) : -4611686018427387904 ≤ a * b ∧ a * b ≤ 4611686018427387904 := by
  have h : a.natAbs * b.natAbs ≤ 2147483648 * 2147483648 := Nat.mul_le_mul (by omega) (by omega)
  rw [← Int.natAbs_mul] at h
  omega

theorem ediv_range (x d M : Int) (hd : 1 ≤ d) (h : -M ≤ x ∧ x ≤ M) : -M ≤ x / d ∧ x / d ≤ M := by
  by_cases hx : 0 ≤ x
  · have := Int.ediv_nonneg hx (show 0 ≤ d by omega)
    have := Int.ediv_le_self d hx
    omega
  · have h1 : x ≤ x / d := by
      rw [Int.le_ediv_iff_mul_le (by omega)]
      have := Int.mul_le_mul_of_nonpos_left (show x ≤ 0 by omega) hd
      omega
    have h2 : x / d < 0 := Int.ediv_neg_of_neg_of_pos (by omega) (by omega)
    omega

theorem mq_exact (a b y k : Int) (hy : y ≠ 0) (h : a * b = y * k) (up : Bool) : mq a b y up = k := by
  unfold mq
  rw [h]
  by_cases hn : y < 0
  · rw [if_pos hn, ← Int.neg_mul, show -y = (y.natAbs : Int) by omega, Int.mul_comm]
    exact mdQ_mul _ _ (by omega) _
  · rw [if_neg hn]
    have e : y = (y.natAbs : Int) := by omega
    rw [show y * k = (y.natAbs : Int) * k by rw [← e], Int.mul_comm]
    exact mdQ_mul _ _ (by omega) _
theorem mq_apart (a b y : Int) (hy : y ≠ 0) (h : ¬ y ∣ a * b) : mq a b y true = mq a b y false + 1 := by
  unfold mq mdQ
  have hd : ¬ (y.natAbs : Int) ∣ (if y < 0 then -(a * b) else a * b) := by
    intro c
    apply h
    rw [Int.natAbs_dvd] at c
    split at c
    · exact Int.dvd_neg.1 c
    · exact c
  generalize (if y < 0 then -(a * b) else a * b) = x at *
  simp only [if_true, Bool.false_eq_true, if_false]
  rw [Int.neg_ediv, if_neg hd, Int.sign_eq_one_of_pos (by omega)]
  omega
theorem mq_range (a b y M : Int) (up : Bool) (hy : y ≠ 0) (h : -M ≤ a * b ∧ a * b ≤ M) : -M ≤ mq a b y up ∧ mq a b y up ≤ M := by
  unfold mq mdQ
  have hx : -M ≤ (if y < 0 then -(a * b) else a * b) ∧ (if y < 0 then -(a * b) else a * b) ≤ M := by split <;> omega
  generalize (if y < 0 then -(a * b) else a * b) = x at *
  have h1 := ediv_range x y.natAbs M (by omega) hx
  have h2 := ediv_range (-x) y.natAbs M (by omega) (by omega)
  split <;> omega

theorem between_law (a b y : Int) (wa : (Lit.int .i32 a).wf = true) (wb : (Lit.int .i32 b).wf = true) (wy : (Lit.int .i32 y).wf = true) (w : World) :
    Calls Try.prog 6 #[.int .i32 a, .int .i32 b, .int .i32 y] w fun e w' => e = .returned (.bool true) ∧ Grown w w' := by
  have ra := i32_range wa
  have rb := i32_range wb
  have ry := i32_range wy
  have rp := prod_range a b ra rb
  have c1 := fun w => muldiv_any a b y false (by unfold I64; omega) (by unfold I64; omega) (by unfold I64; omega) w
  have c2 := fun w => muldiv_any a b y true (by unfold I64; omega) (by unfold I64; omega) (by unfold I64; omega) w
  clear wa wb wy
  by_cases h0 : y = 0
  · subst h0
    have c0 : mv a b 0 false = 0 ∧ me a b 0 false = 22 := ⟨rfl, rfl⟩
    rw [c0.1, c0.2] at c1
    clear c0 c2 ry
    go_enter Try.func6, Try.ntmps6
    go_wp2_with fail
    refine (known_any _).mono ?_
    rintro e w1 ⟨rfl, h1⟩
    go_wp2_with fail
    refine (c1 _).mono ?_
    rintro e w2 ⟨rfl, h2⟩
    go_wp2
    go_ret
    exact ⟨rfl, (h1.trans h2).q.grown⟩
  · have r1 := mq_range a b y _ false h0 rp
    have r2 := mq_range a b y _ true h0 rp
    have e1 : mv a b y false = mq a b y false ∧ me a b y false = 0 := by rw [mv, me, if_neg h0, if_neg h0, qv_yes (by unfold I64; omega), qe_yes (by unfold I64; omega)]; exact ⟨rfl, rfl⟩
    have e2 : mv a b y true = mq a b y true ∧ me a b y true = 0 := by rw [mv, me, if_neg h0, if_neg h0, qv_yes (by unfold I64; omega), qe_yes (by unfold I64; omega)]; exact ⟨rfl, rfl⟩
    rw [e1.1, e1.2] at c1
    rw [e2.1, e2.2] at c2
    clear e1 e2
    have hB : (y == 0) = false := by simpa using h0
    by_cases hd : y ∣ a * b
    · obtain ⟨k, hk⟩ := hd
      have hm : ((a * b).tmod y == 0) = true := by rw [beq_iff_eq, hk, Int.mul_tmod_right]
      have hq : (a * b).tdiv y = k := by rw [hk, Int.mul_tdiv_cancel_left _ h0]
      rw [mq_exact a b y k h0 hk] at c1 r1
      rw [mq_exact a b y k h0 hk] at c2
      clear hk r2
      obtain ⟨r11, r12⟩ := r1
      obtain ⟨rp1, rp2⟩ := rp
      have hq' : wrap64 ((a * b).tdiv y) = k := by rw [hq]; exact IntWalk.wrap64_in _ ⟨by omega, by omega⟩
      clear hq
      go_enter Try.func6, Try.ntmps6
      go_wp2_with fail
      refine (known_any _).mono ?_
      rintro e w1 ⟨rfl, h1⟩
      go_wp2_with fail
      refine (c1 _).mono ?_
      rintro e w2 ⟨rfl, h2⟩
      go_wp2_with fail
      refine (c2 _).mono ?_
      rintro e w3 ⟨rfl, h3⟩
      go_wp2
      go_ret
      exact ⟨rfl, ((h1.trans h2).trans h3).q.grown⟩
    · have hm : ((a * b).tmod y == 0) = false := by rw [beq_eq_false_iff_ne]; exact fun c => hd (Int.dvd_of_tmod_eq_zero c)
      rw [mq_apart a b y h0 hd] at c2
      generalize mq a b y false = k at *
      have ht : (k + 1 == k) = false := by rw [beq_eq_false_iff_ne]; omega
      clear hd r2
      obtain ⟨r11, r12⟩ := r1
      obtain ⟨rp1, rp2⟩ := rp
      go_enter Try.func6, Try.ntmps6
      go_wp2_with fail
      refine (known_any _).mono ?_
      rintro e w1 ⟨rfl, h1⟩
      go_wp2_with fail
      refine (c1 _).mono ?_
      rintro e w2 ⟨rfl, h2⟩
      go_wp2_with fail
      refine (c2 _).mono ?_
      rintro e w3 ⟨rfl, h3⟩
      go_wp2
      go_ret
      exact ⟨rfl, ((h1.trans h2).trans h3).q.grown⟩
end Go.Proofs.Ytfopgblhkophpaa
