/-
  Plain mathematics of a division bit by bit. No program is named here.
-/
import Derived.Test.YtkiepmfknbbeaaaQdiv
namespace Go.Proofs.Ytkiepmfknbbeaaa

/-- The document's division, bit by bit: with n bits to go. -/
structure Dv (N D n qh ql r : Nat) : Prop where
  quo : qh * 18446744073709551616 + ql = N / 2 ^ n / D * 2 ^ n
  rest : r = N / 2 ^ n % D
  lo : ql < 18446744073709551616

theorem two64 (m : Nat) (h : 64 ≤ m) : 2 ^ m = 18446744073709551616 * 2 ^ (m - 64) := by
  rw [show (18446744073709551616 : Nat) = 2 ^ 64 from by decide, ← Nat.pow_add, show 64 + (m - 64) = m by omega]
theorem low64 (m : Nat) (h : m < 64) : (18446744073709551616 : Nat) = 2 ^ m * (2 * 2 ^ (63 - m)) := by
  have e : 64 = m + (1 + (63 - m)) := by omega
  rw [show (18446744073709551616 : Nat) = 2 ^ 64 from by decide]
  conv => lhs; rw [e]
  rw [Nat.pow_add, Nat.pow_add, Nat.pow_one]
theorem bit_high (hi lo m : Nat) (hlo : lo < 18446744073709551616) (hm : 64 ≤ m) : (hi * 18446744073709551616 + lo) / 2 ^ m = hi / 2 ^ (m - 64) := by
  rw [two64 m hm, ← Nat.div_div_eq_div_mul]
  congr 1
  omega
theorem bit_low (hi lo m : Nat) (hm : m < 64) : (hi * 18446744073709551616 + lo) / 2 ^ m % 2 = lo / 2 ^ m % 2 := by
  rw [low64 m hm, Nat.mul_comm hi, Nat.mul_assoc, Nat.mul_add_div (Nat.two_pow_pos m), Nat.mul_assoc, Nat.mul_add_mod]

/-- One bit more: the quotient and the rest. -/
theorem div_step (X D b : Nat) (hD : 0 < D) (hb : b < 2) :
    (D ≤ 2 * (X % D) + b → (2 * X + b) / D = 2 * (X / D) + 1 ∧ (2 * X + b) % D = 2 * (X % D) + b - D) ∧
    (¬ D ≤ 2 * (X % D) + b → (2 * X + b) / D = 2 * (X / D) ∧ (2 * X + b) % D = 2 * (X % D) + b) := by
  have h := Nat.div_add_mod X D
  have hl := Nat.mod_lt X hD
  generalize X / D = q at *
  generalize X % D = r at *
  constructor
  · intro c
    have e : 2 * X + b = (2 * r + b - D) + D * (2 * q + 1) := by rw [Nat.mul_add, Nat.mul_left_comm]; omega
    rw [e, Nat.add_mul_div_left _ _ hD, Nat.add_mul_mod_self_left, Nat.div_eq_of_lt (by omega), Nat.mod_eq_of_lt (by omega)]
    omega
  · intro c
    have e : 2 * X + b = (2 * r + b) + D * (2 * q) := by rw [Nat.mul_left_comm]; omega
    rw [e, Nat.add_mul_div_left _ _ hD, Nat.add_mul_mod_self_left, Nat.div_eq_of_lt (by omega), Nat.mod_eq_of_lt (by omega)]
    omega
theorem half_step (N m : Nat) : N / 2 ^ m = 2 * (N / 2 ^ (m + 1)) + N / 2 ^ m % 2 := by
  rw [Nat.pow_succ, ← Nat.div_div_eq_div_mul]; omega

theorem Dv.take {N D m qh ql r : Nat} (hD : 0 < D) (d : Dv N D (m + 1) qh ql r) (h : D ≤ 2 * r + N / 2 ^ m % 2) :
    qh * 18446744073709551616 + ql + 2 ^ m = N / 2 ^ m / D * 2 ^ m ∧ 2 * r + N / 2 ^ m % 2 - D = N / 2 ^ m % D := by
  have s := (div_step (N / 2 ^ (m + 1)) D (N / 2 ^ m % 2) hD (Nat.mod_lt _ (by omega))).1
  rw [← d.rest, ← half_step] at s
  have s' := s h
  have q := d.quo
  refine ⟨?_, s'.2.symm⟩
  rw [q, s'.1, Nat.pow_succ, Nat.add_mul, Nat.mul_comm 2, Nat.mul_assoc, Nat.mul_comm (2 ^ m) 2, Nat.one_mul]
theorem Dv.leave {N D m qh ql r : Nat} (hD : 0 < D) (d : Dv N D (m + 1) qh ql r) (h : ¬ D ≤ 2 * r + N / 2 ^ m % 2) : Dv N D m qh ql (2 * r + N / 2 ^ m % 2) := by
  have s := (div_step (N / 2 ^ (m + 1)) D (N / 2 ^ m % 2) hD (Nat.mod_lt _ (by omega))).2
  rw [← d.rest, ← half_step] at s
  have s' := s h
  have q := d.quo
  refine ⟨?_, s'.2.symm, d.lo⟩
  rw [q, s'.1]
  generalize N / 2 ^ (m + 1) / D = X
  rw [Nat.pow_succ, Nat.mul_comm 2 X, Nat.mul_assoc, Nat.mul_comm (2 ^ m) 2]
theorem Dv.hi_lt {N D n qh ql r : Nat} (d : Dv N D n qh ql r) (hN : N < 18446744073709551616 * 18446744073709551616) : qh < 18446744073709551616 := by
  have q := d.quo
  have h1 : N / 2 ^ n / D * 2 ^ n ≤ N := Nat.le_trans (Nat.mul_le_mul_right _ (Nat.div_le_self _ _)) (Nat.div_mul_le_self _ _)
  omega
theorem Dv.dvd {N D n qh ql r : Nat} (d : Dv N D n qh ql r) : 2 ^ n ∣ qh * 18446744073709551616 + ql := ⟨N / 2 ^ n / D, by rw [d.quo, Nat.mul_comm]⟩

/-- The bit of the quotient that is set, in its half. -/
theorem set_high {N D m qh ql r : Nat} (d : Dv N D (m + 1) qh ql r) (hN : N < 18446744073709551616 * 18446744073709551616) (hm : 64 ≤ m) (hm2 : m < 128) :
    IntKind.u64.wrap ((2 : Int) ^ (m - 64)) = ((2 ^ (m - 64) : Nat) : Int) ∧ bits .or .u64 (qh : Int) ((2 ^ (m - 64) : Nat) : Int) = ((qh + 2 ^ (m - 64) : Nat) : Int) ∧
      (qh + 2 ^ (m - 64)) * 18446744073709551616 + ql = qh * 18446744073709551616 + ql + 2 ^ m := by
  have hp : 2 ^ (m - 64) ≤ 2 ^ 63 := Nat.pow_le_pow_right (by omega) (by omega)
  have hd := d.dvd
  have hlo := d.lo
  have h64 : 2 ^ (m + 1) = 18446744073709551616 * 2 ^ (m + 1 - 64) := two64 (m + 1) (by omega)
  have hq : 2 ^ (m - 64 + 1) ∣ qh := by
    rw [h64, show m + 1 - 64 = m - 64 + 1 by omega] at hd
    obtain ⟨k, hk⟩ := hd
    rw [Nat.mul_assoc] at hk
    refine ⟨k, ?_⟩
    omega
  refine ⟨?_, ?_, ?_⟩
  · rw [show ((2 : Int) ^ (m - 64)) = ((2 ^ (m - 64) : Nat) : Int) by push_cast; rfl]; exact wrapN _ (by omega)
  · rw [bits_or_u64_nat _ _ (d.hi_lt hN) (by omega), or_join (m - 64 + 1) _ _ hq (Nat.pow_lt_pow_right (by omega) (by omega))]
  · rw [two64 m hm, Nat.add_mul, Nat.mul_comm (2 ^ (m - 64))]; omega
theorem set_low {N D m qh ql r : Nat} (d : Dv N D (m + 1) qh ql r) (hm : m < 64) :
    IntKind.u64.wrap ((2 : Int) ^ m) = ((2 ^ m : Nat) : Int) ∧ bits .or .u64 (ql : Int) ((2 ^ m : Nat) : Int) = ((ql + 2 ^ m : Nat) : Int) ∧ ql + 2 ^ m < 18446744073709551616 := by
  have hp : 2 ^ m ≤ 2 ^ 63 := Nat.pow_le_pow_right (by omega) (by omega)
  have hd := d.dvd
  have hlo := d.lo
  have h64 := low64 m hm
  have hq : 2 ^ (m + 1) ∣ ql := by
    have h1 : 2 ^ (m + 1) ∣ qh * 18446744073709551616 := by
      rw [h64, ← Nat.mul_assoc (2 ^ m), ← Nat.pow_succ]
      exact ⟨qh * 2 ^ (63 - m), by rw [Nat.mul_left_comm]⟩
    exact (Nat.dvd_add_right h1).1 hd
  refine ⟨?_, ?_, ?_⟩
  · rw [show ((2 : Int) ^ m) = ((2 ^ m : Nat) : Int) by push_cast; rfl]; exact wrapN _ (by omega)
  · rw [bits_or_u64_nat _ _ hlo (by omega), or_join (m + 1) _ _ hq (Nat.pow_lt_pow_right (by omega) (by omega))]
  · obtain ⟨k, hk⟩ := hq
    have h2 : 2 ^ m * (2 * k) < 2 ^ m * (2 * 2 ^ (63 - m)) := by rw [← h64, ← Nat.mul_assoc, ← Nat.pow_succ, ← hk]; exact hlo
    have h3 := Nat.lt_of_mul_lt_mul_left h2
    have h4 := Nat.mul_le_mul_left (2 ^ m) (show 2 * k + 2 ≤ 2 * 2 ^ (63 - m) by omega)
    rw [← h64, Nat.mul_add, ← Nat.mul_assoc, ← Nat.pow_succ, ← hk] at h4
    omega

theorem mask1 (a : Nat) (ha : a < 18446744073709551616) : bits .and .u64 (a : Int) 1 = ((a % 2 : Nat) : Int) := by
  have h := bits_and_u64_nat a 1 ha (by omega)
  have e : a &&& 1 = a % 2 := Nat.and_two_pow_sub_one_eq_mod a 1
  rw [e] at h
  exact h
theorem or_bit1 (a b : Nat) (hb : b < 2) : bits .or .u64 ((a * 2 % 18446744073709551616 : Nat) : Int) (b : Int) = ((a * 2 % 18446744073709551616 + b : Nat) : Int) := by
  rw [bits_or_u64_nat _ _ (Nat.mod_lt _ (by omega)) (by omega), or_join 1 _ _ (by omega) (by omega)]

/-- What a round does to the rest, and which way it goes. -/
theorem rest_ways (r b D : Nat) (hb : b < 2) (hr : r < D) (hD : D < 18446744073709551616) :
    ∃ O R2 R3 : Nat, (r : Int) / 9223372036854775808 = (O : Int) ∧ IntKind.u64.wrap ((r : Int) * 2) = (R2 : Int) ∧ bits .or .u64 (R2 : Int) (b : Int) = (R3 : Int) ∧
      ((D ≤ 2 * r + b ∧ ∃ R4 : Nat, IntKind.u64.wrap ((R3 : Int) - (D : Int)) = (R4 : Int) ∧ R4 = 2 * r + b - D ∧ (((O : Int) == 1) = true ∨ (((O : Int) == 1) = false ∧ decide (D ≤ R3) = true))) ∨
       (¬ D ≤ 2 * r + b ∧ R3 = 2 * r + b ∧ ((O : Int) == 1) = false ∧ decide (D ≤ R3) = false)) := by
  refine ⟨r / 9223372036854775808, r * 2 % 18446744073709551616, r * 2 % 18446744073709551616 + b, by omega, ?_, or_bit1 r b hb, ?_⟩
  · rw [show ((r : Int) * 2) = ((r * 2 : Nat) : Int) by omega]; exact wrapM _
  · by_cases h : D ≤ 2 * r + b
    · refine Or.inl ⟨h, 2 * r + b - D, ?_, rfl, ?_⟩
      · rw [wrapU]; omega
      · by_cases c : r / 9223372036854775808 = 1
        · exact Or.inl (by rw [beq_iff_eq]; omega)
        · exact Or.inr ⟨by rw [beq_eq_false_iff_ne]; omega, decide_eq_true (by omega)⟩
    · exact Or.inr ⟨h, by omega, by rw [beq_eq_false_iff_ne]; omega, decide_eq_false (by omega)⟩

/-- The bit that a round reads. -/
theorem bit_read_high (hi lo m : Nat) (hhi : hi < 18446744073709551616) (hlo : lo < 18446744073709551616) (hm : 64 ≤ m) :
    bits .and .u64 ((hi : Int) / 2 ^ (m - 64)) 1 = (((hi * 18446744073709551616 + lo) / 2 ^ m % 2 : Nat) : Int) := by
  rw [bit_high hi lo m hlo hm, ← mask1 _ (Nat.lt_of_le_of_lt (Nat.div_le_self _ _) hhi)]
  push_cast; rfl
theorem bit_read_low (hi lo m : Nat) (hlo : lo < 18446744073709551616) (hm : m < 64) :
    bits .and .u64 ((lo : Int) / 2 ^ (m % 64)) 1 = (((hi * 18446744073709551616 + lo) / 2 ^ m % 2 : Nat) : Int) := by
  rw [bit_low hi lo m hm, ← mask1 _ (Nat.lt_of_le_of_lt (Nat.div_le_self _ _) hlo), Nat.mod_eq_of_lt hm]
  push_cast; rfl
theorem Dv.first (N D : Nat) (hN : N < 18446744073709551616 * 18446744073709551616) : Dv N D 128 0 0 0 := by
  have h : N / 2 ^ 128 = 0 := Nat.div_eq_of_lt (Nat.lt_of_lt_of_eq hN (by decide))
  exact ⟨by rw [h, Nat.zero_div, Nat.zero_mul], by rw [h, Nat.zero_mod], by decide⟩
end Go.Proofs.Ytkiepmfknbbeaaa
