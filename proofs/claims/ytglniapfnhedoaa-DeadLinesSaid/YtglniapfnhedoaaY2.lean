/-
  Contracts of the document's own products (its sums: XRadd); Plain mathematics of a division bit by bit. No program is named here; The contract of the document's own division of 128 bits by 64, bit by bit; Regions that draw their order: one order is walked, its right is reckoned once by masks of bits. No program is named here; The document's own sides of a section at a height; Plain mathematics of tables: areas, bounds of slices, their sums, what lies between. No program is named here; The document's own areas; What lies in blocks that are known: it stays while these do. No program is named here.
-/
import Derived.WalkKit
import Derived.Deep.RegionHeld3
import Derived.KernelRfl
import Derived.RegionTactic
import Derived.BigRegion
import Derived.ChangeAlike
import Derived.Test.YtglniapfnhedoaaChecked
import Derived.Lib.Mul64
import Derived.Outline
import Derived.Lib.MinMax
import Derived.Test.YtglniapfnhedoaaY1
namespace Go.Proofs.Ytglniapfnhedoaa
open Go.RowKit
theorem amount_any (a : Int) (ha : I64 a) (w : World) :
    Calls Try.prog 60 #[.int .i64 a] w fun e w' => e = .returned (.int .u64 (a.natAbs : Int)) ∧ w = w' := by
  unfold I64 at ha
  obtain ⟨h1, h2⟩ := ha
  by_cases hn : a < 0
  · have e : IntKind.u64.wrap (-IntKind.u64.wrap a) = (a.natAbs : Int) := by rw [wrapU, wrapU]; omega
    go_enter Try.func60, Try.ntmps60
    go_wp2
    go_ret
    exact ⟨rfl, rfl⟩
  · have e : IntKind.u64.wrap a = (a.natAbs : Int) := by rw [wrapU]; omega
    go_enter Try.func60, Try.ntmps60
    go_wp2
    go_ret
    exact ⟨rfl, rfl⟩
/-- The halves of a product. -/
def hi64 (x y : Nat) : Nat := x * y / 18446744073709551616
def lo64 (x y : Nat) : Nat := x * y % 18446744073709551616
theorem low_or (p m : Nat) (hp : p < 4294967296) : bits .or .u64 (p : Int) ((m * 4294967296 % 18446744073709551616 : Nat) : Int) = ((p + m * 4294967296 % 18446744073709551616 : Nat) : Int) := by
  rw [bits_or_u64_nat _ _ (by omega) (Nat.mod_lt _ (by omega)), Nat.or_comm, or_join 32 _ _ (by omega) (by omega)]
  omega
/-- The numbers that the walk meets. -/
theorem times_nums (x y : Nat) (hx : x < 18446744073709551616) (hy : y < 18446744073709551616) :
    ∃ a0 a1 b0 b1 P Z R S P0 P1 Z0 Z1 R0 R1 ML LO : Nat,
      bits .and .u64 (x : Int) 4294967295 = (a0 : Int) ∧ (x : Int) / 4294967296 = (a1 : Int) ∧ bits .and .u64 (y : Int) 4294967295 = (b0 : Int) ∧ (y : Int) / 4294967296 = (b1 : Int) ∧
      IntKind.u64.wrap ((a0 : Int) * (b0 : Int)) = (P : Int) ∧ IntKind.u64.wrap ((a1 : Int) * (b0 : Int)) = (Z : Int) ∧ IntKind.u64.wrap ((a0 : Int) * (b1 : Int)) = (R : Int) ∧ IntKind.u64.wrap ((a1 : Int) * (b1 : Int)) = (S : Int) ∧
      bits .and .u64 (P : Int) 4294967295 = (P0 : Int) ∧ (P : Int) / 4294967296 = (P1 : Int) ∧ bits .and .u64 (Z : Int) 4294967295 = (Z0 : Int) ∧ (Z : Int) / 4294967296 = (Z1 : Int) ∧ bits .and .u64 (R : Int) 4294967295 = (R0 : Int) ∧ (R : Int) / 4294967296 = (R1 : Int) ∧
      (P0 < 4294967296 ∧ P1 < 4294967296 ∧ Z0 < 4294967296 ∧ Z1 < 4294967296 ∧ R0 < 4294967296 ∧ R1 < 4294967296 ∧ S ≤ 18446744065119617025) ∧
      IntKind.u64.wrap (((P1 : Int) + (Z0 : Int) + (R0 : Int)) * 4294967296) = (ML : Int) ∧ bits .or .u64 (P0 : Int) (ML : Int) = (LO : Int) ∧
      IntKind.u64.wrap ((S : Int) + (Z1 : Int) + (R1 : Int) + ((P1 : Int) + (Z0 : Int) + (R0 : Int)) / 4294967296) = (hi64 x y : Int) ∧ LO = lo64 x y := by
  have e : x * y = (x / 4294967296) * (y / 4294967296) * (4294967296 * 4294967296) + ((x / 4294967296) * (y % 4294967296) + (x % 4294967296) * (y / 4294967296)) * 4294967296 + (x % 4294967296) * (y % 4294967296) := by
    rw [← Lib.split_mul, Nat.div_add_mod' x 4294967296, Nat.div_add_mod' y 4294967296]
  have ha := Lib.half_mul_le (a := x / 4294967296) (b := y / 4294967296) (by omega) (by omega)
  have hb := Lib.half_mul_le (a := x / 4294967296) (b := y % 4294967296) (by omega) (by omega)
  have hc := Lib.half_mul_le (a := x % 4294967296) (b := y / 4294967296) (by omega) (by omega)
  have hd := Lib.half_mul_le (a := x % 4294967296) (b := y % 4294967296) (by omega) (by omega)
  have m0 := maskN x hx
  have m1 := maskN y hy
  have d0 : (x : Int) / 4294967296 = ((x / 4294967296 : Nat) : Int) := by omega
  have d1 : (y : Int) / 4294967296 = ((y / 4294967296 : Nat) : Int) := by omega
  unfold hi64 lo64
  rw [e]
  clear e
  generalize x / 4294967296 = a1 at *
  generalize x % 4294967296 = a0 at *
  generalize y / 4294967296 = b1 at *
  generalize y % 4294967296 = b0 at *
  refine ⟨a0, a1, b0, b1, a0 * b0, a1 * b0, a0 * b1, a1 * b1, a0 * b0 % 4294967296, a0 * b0 / 4294967296, a1 * b0 % 4294967296, a1 * b0 / 4294967296, a0 * b1 % 4294967296, a0 * b1 / 4294967296,
    (a0 * b0 / 4294967296 + a1 * b0 % 4294967296 + a0 * b1 % 4294967296) * 4294967296 % 18446744073709551616, a0 * b0 % 4294967296 + (a0 * b0 / 4294967296 + a1 * b0 % 4294967296 + a0 * b1 % 4294967296) * 4294967296 % 18446744073709551616,
    m0, d0, m1, d1, ?_, ?_, ?_, ?_, ?_, ?_, ?_, ?_, ?_, ?_, ?_, ?_, ?_, ?_, ?_⟩
  · rw [← Int.natCast_mul]; exact wrapN _ (by omega)
  · rw [← Int.natCast_mul]; exact wrapN _ (by omega)
  · rw [← Int.natCast_mul]; exact wrapN _ (by omega)
  · rw [← Int.natCast_mul]; exact wrapN _ (by omega)
  all_goals
    generalize a0 * b0 = P at *
    generalize a1 * b0 = Z at *
    generalize a0 * b1 = R at *
    generalize a1 * b1 = S at *
  · exact maskN _ (by omega)
  · omega
  · exact maskN _ (by omega)
  · omega
  · exact maskN _ (by omega)
  · omega
  · omega
  · rw [← wrapM]; congr 1
  · exact low_or _ _ (by omega)
  · rw [wrapU]; omega
  · omega
/-- The document's product of halves. -/
theorem times_any (x y : Nat) (hx : x < 18446744073709551616) (hy : y < 18446744073709551616) (w : World) :
    Calls Try.prog 59 #[.int .u64 x, .int .u64 y] w fun e w' => e = .returned (.agg #[.int .u64 (hi64 x y), .int .u64 (lo64 x y)]) ∧ Q w w' := by
  obtain ⟨a0, a1, b0, b1, P, Z, R, S, P0, P1, Z0, Z1, R0, R1, ML, LO, e1, e2, e3, e4, e5, e6, e7, e8, e9, e10, e11, e12, e13, e14, ⟨u1, u2, u3, u4, u5, u6, u7⟩, e15, e16, e17, e18⟩ := times_nums x y hx hy
  subst e18
  go_enter Try.func59, Try.ntmps59
  go_wp2
  refine bodyPost_ret (v := .agg #[.int .u64 (hi64 x y), .int .u64 (lo64 x y)]) (by simp [results, Try.results59, go_sem]) rfl ⟨rfl, ?_⟩
  exact (Q.refl w).alloc _ _
/-- Is an amount of halves, with a sign, a number of 64 bits? -/
theorem long_fits (hi lo : Nat) (neg : Bool) (hlo : lo < 18446744073709551616) : I64 (sg neg (hi * 18446744073709551616 + lo)) ↔ (hi = 0 ∧ (lo < 9223372036854775808 ∨ (lo = 9223372036854775808 ∧ neg = true))) := by
  cases neg
  · rw [sg_fits_pos]; simp; omega
  · rw [sg_fits_neg]; simp; omega
theorem rsigned_any (hi lo : Nat) (neg : Bool) (hlo : lo < 18446744073709551616) (w : World) :
    Calls Try.prog 62 #[.agg #[.int .u64 hi, .int .u64 lo], .bool neg] w fun e w' => e = .returned (.tuple #[.int .i64 (qv (sg neg (hi * 18446744073709551616 + lo))), .bool (decide (I64 (sg neg (hi * 18446744073709551616 + lo))))]) ∧ Q w w' := by
  have hf := long_fits hi lo neg hlo
  by_cases h : I64 (sg neg (hi * 18446744073709551616 + lo))
  · rw [qv_yes h, decide_eq_true h]
    obtain ⟨rfl, h'⟩ := hf.1 h
    rw [Nat.zero_mul, Nat.zero_add]
    have b1 : decide ((9223372036854775808 : Int) < (lo : Int)) = false := decide_eq_false (by omega)
    clear hf h
    cases neg
    · have b2 : ((lo : Int) == 9223372036854775808) = false := by rw [beq_eq_false_iff_ne]; simp at h'; omega
      have e : IntKind.i64.wrap (lo : Int) = sg false lo := by rw [IntKind.wrap_i64]; unfold sg; simp at h' ⊢; omega
      clear h'
      go_enter Try.func62, Try.ntmps62
      go_wp2
      go_ret2
      exact ⟨rfl, (Q.refl w).alloc _ _⟩
    · have e : IntKind.i64.wrap (IntKind.u64.wrap (-(lo : Int))) = sg true lo := by rw [IntKind.wrap_i64, wrapU]; unfold sg; simp at h' ⊢; omega
      have b2 : ((lo : Int) == 9223372036854775808) = true ∨ ((lo : Int) == 9223372036854775808) = false := by cases (lo : Int) == 9223372036854775808 <;> simp
      clear h'
      rcases b2 with b2 | b2
      all_goals
        go_enter Try.func62, Try.ntmps62
        go_wp2
        go_ret2
        exact ⟨rfl, (Q.refl w).alloc _ _⟩
  · rw [qv_no h, decide_eq_false h]
    have h' : ¬ (hi = 0 ∧ (lo < 9223372036854775808 ∨ (lo = 9223372036854775808 ∧ neg = true))) := fun c => h (hf.2 c)
    clear hf h
    by_cases h0 : hi = 0
    · subst h0
      by_cases h1 : 9223372036854775808 < lo
      · have b1 : decide ((9223372036854775808 : Int) < (lo : Int)) = true := decide_eq_true (by omega)
        clear h' h1
        go_enter Try.func62, Try.ntmps62
        go_wp2
        go_ret2
        exact ⟨rfl, (Q.refl w).alloc _ _⟩
      · have h2 : lo = 9223372036854775808 := by
          by_cases c : lo < 9223372036854775808
          · exact absurd ⟨rfl, Or.inl c⟩ h'
          · omega
        have h3 : neg = false := by
          cases neg
          · rfl
          · exact absurd ⟨rfl, Or.inr ⟨h2, rfl⟩⟩ h'
        have b1 : decide ((9223372036854775808 : Int) < (lo : Int)) = false := decide_eq_false (by omega)
        have b2 : ((lo : Int) == 9223372036854775808) = true := by rw [beq_iff_eq]; omega
        subst h3
        clear h' h1 h2
        go_enter Try.func62, Try.ntmps62
        go_wp2
        go_ret2
        exact ⟨rfl, (Q.refl w).alloc _ _⟩
    · have b0 : ((hi : Int) != 0) = true := by simpa using h0
      clear h' h0
      go_enter Try.func62, Try.ntmps62
      go_wp2
      go_ret2
      exact ⟨rfl, (Q.refl w).alloc _ _⟩
theorem told_any (v : Int) (c : Prop) [Decidable c] (w : World) :
    Calls Try.prog 61 #[.int .i64 v, .bool (decide c)] w fun e w' => e = .returned (.tuple #[.int .i64 (if c then v else 0), .int .i64 (if c then 0 else 21)]) ∧ w = w' := by
  by_cases h : c
  · rw [decide_eq_true h, if_pos h, if_pos h]
    clear h
    go_enter Try.func61, Try.ntmps61
    go_wp2
    go_ret2
    exact ⟨rfl, rfl⟩
  · rw [decide_eq_false h, if_neg h, if_neg h]
    clear h
    go_enter Try.func61, Try.ntmps61
    go_wp2
    go_ret2
    exact ⟨rfl, rfl⟩
/-- What 'told' says of a number that 'signed' gave. -/
theorem told_qv (v : Int) (w : World) :
    Calls Try.prog 61 #[.int .i64 (qv v), .bool (decide (I64 v))] w fun e w' => e = .returned (.tuple #[.int .i64 (qv v), .int .i64 (qe v)]) ∧ w = w' := by
  refine (told_any (qv v) (I64 v) w).mono fun e w' h => ⟨?_, h.2⟩
  rw [h.1]
  by_cases c : I64 v
  · rw [if_pos c, if_pos c, qe_yes c]
  · rw [if_neg c, if_neg c, qv_no c, qe_no c]
theorem halves (x y : Nat) : hi64 x y * 18446744073709551616 + lo64 x y = x * y := Nat.div_add_mod' _ _
theorem lo64_lt (x y : Nat) : lo64 x y < 18446744073709551616 := Nat.mod_lt _ (by omega)
end Go.Proofs.Ytglniapfnhedoaa

namespace Go.Proofs.Ytglniapfnhedoaa
/-- The document's division, bit by bit: with n bits to go. -/
structure Dv (N D n qh ql r : Nat) : Prop where
  quo : qh * 18446744073709551616 + ql = N / 2 ^ n / D * 2 ^ n
  rest : r = N / 2 ^ n % D
  lo : ql < 18446744073709551616
theorem two64 (m : Nat) (h : 64 ≤ m) : 2 ^ m = 18446744073709551616 * 2 ^ (m - 64) := by
  rw [show (18446744073709551616 : Nat) = 2 ^ 64 from by decide, ← Nat.pow_add, show 64 + (m - 64) = m by omega]
theorem low64 (m : Nat) (h : m < 64) : (18446744073709551616 : Nat) = 2 ^ m * (2 * 2 ^ (63 - m)) := by
  have e : 64 = m + (1 + (63 - m)) := by omega
  rw [show (18446744073709551616 : Nat) = 2 ^ 64 from by decide]
  conv => lhs; rw [e]
  rw [Nat.pow_add, Nat.pow_add, Nat.pow_one]
theorem bit_high (hi lo m : Nat) (hlo : lo < 18446744073709551616) (hm : 64 ≤ m) : (hi * 18446744073709551616 + lo) / 2 ^ m = hi / 2 ^ (m - 64) := by
  rw [two64 m hm, ← Nat.div_div_eq_div_mul]
  congr 1
  omega
theorem bit_low (hi lo m : Nat) (hm : m < 64) : (hi * 18446744073709551616 + lo) / 2 ^ m % 2 = lo / 2 ^ m % 2 := by
  rw [low64 m hm, Nat.mul_comm hi, Nat.mul_assoc, Nat.mul_add_div (Nat.two_pow_pos m), Nat.mul_assoc, Nat.mul_add_mod]
/-- One bit more: the quotient and the rest. -/
theorem div_step (X D b : Nat) (hD : 0 < D) (hb : b < 2) :
    (D ≤ 2 * (X % D) + b → (2 * X + b) / D = 2 * (X / D) + 1 ∧ (2 * X + b) % D = 2 * (X % D) + b - D) ∧
    (¬ D ≤ 2 * (X % D) + b → (2 * X + b) / D = 2 * (X / D) ∧ (2 * X + b) % D = 2 * (X % D) + b) := by
  have h := Nat.div_add_mod X D
  have hl := Nat.mod_lt X hD
  generalize X / D = q at *
  generalize X % D = r at *
  constructor
  · intro c
    have e : 2 * X + b = (2 * r + b - D) + D * (2 * q + 1) := by rw [Nat.mul_add, Nat.mul_left_comm]; omega
    rw [e, Nat.add_mul_div_left _ _ hD, Nat.add_mul_mod_self_left, Nat.div_eq_of_lt (by omega), Nat.mod_eq_of_lt (by omega)]
    omega
  · intro c
    have e : 2 * X + b = (2 * r + b) + D * (2 * q) := by rw [Nat.mul_left_comm]; omega
    rw [e, Nat.add_mul_div_left _ _ hD, Nat.add_mul_mod_self_left, Nat.div_eq_of_lt (by omega), Nat.mod_eq_of_lt (by omega)]
    omega
theorem half_step (N m : Nat) : N / 2 ^ m = 2 * (N / 2 ^ (m + 1)) + N / 2 ^ m % 2 := by
  rw [Nat.pow_succ, ← Nat.div_div_eq_div_mul]; omega
theorem Dv.take {N D m qh ql r : Nat} (hD : 0 < D) (d : Dv N D (m + 1) qh ql r) (h : D ≤ 2 * r + N / 2 ^ m % 2) :
    qh * 18446744073709551616 + ql + 2 ^ m = N / 2 ^ m / D * 2 ^ m ∧ 2 * r + N / 2 ^ m % 2 - D = N / 2 ^ m % D := by
  have s := (div_step (N / 2 ^ (m + 1)) D (N / 2 ^ m % 2) hD (Nat.mod_lt _ (by omega))).1
  rw [← d.rest, ← half_step] at s
  have s' := s h
  have q := d.quo
  refine ⟨?_, s'.2.symm⟩
  rw [q, s'.1, Nat.pow_succ, Nat.add_mul, Nat.mul_comm 2, Nat.mul_assoc, Nat.mul_comm (2 ^ m) 2, Nat.one_mul]
theorem Dv.leave {N D m qh ql r : Nat} (hD : 0 < D) (d : Dv N D (m + 1) qh ql r) (h : ¬ D ≤ 2 * r + N / 2 ^ m % 2) : Dv N D m qh ql (2 * r + N / 2 ^ m % 2) := by
  have s := (div_step (N / 2 ^ (m + 1)) D (N / 2 ^ m % 2) hD (Nat.mod_lt _ (by omega))).2
  rw [← d.rest, ← half_step] at s
  have s' := s h
  have q := d.quo
  refine ⟨?_, s'.2.symm, d.lo⟩
  rw [q, s'.1]
  generalize N / 2 ^ (m + 1) / D = X
  rw [Nat.pow_succ, Nat.mul_comm 2 X, Nat.mul_assoc, Nat.mul_comm (2 ^ m) 2]
theorem Dv.hi_lt {N D n qh ql r : Nat} (d : Dv N D n qh ql r) (hN : N < 18446744073709551616 * 18446744073709551616) : qh < 18446744073709551616 := by
  have q := d.quo
  have h1 : N / 2 ^ n / D * 2 ^ n ≤ N := Nat.le_trans (Nat.mul_le_mul_right _ (Nat.div_le_self _ _)) (Nat.div_mul_le_self _ _)
  omega
theorem Dv.dvd {N D n qh ql r : Nat} (d : Dv N D n qh ql r) : 2 ^ n ∣ qh * 18446744073709551616 + ql := ⟨N / 2 ^ n / D, by rw [d.quo, Nat.mul_comm]⟩
/-- The bit of the quotient that is set, in its half. -/
theorem set_high {N D m qh ql r : Nat} (d : Dv N D (m + 1) qh ql r) (hN : N < 18446744073709551616 * 18446744073709551616) (hm : 64 ≤ m) (hm2 : m < 128) :
    IntKind.u64.wrap ((2 : Int) ^ (m - 64)) = ((2 ^ (m - 64) : Nat) : Int) ∧ bits .or .u64 (qh : Int) ((2 ^ (m - 64) : Nat) : Int) = ((qh + 2 ^ (m - 64) : Nat) : Int) ∧
      (qh + 2 ^ (m - 64)) * 18446744073709551616 + ql = qh * 18446744073709551616 + ql + 2 ^ m := by
  have hp : 2 ^ (m - 64) ≤ 2 ^ 63 := Nat.pow_le_pow_right (by omega) (by omega)
  have hd := d.dvd
  have hlo := d.lo
  have h64 : 2 ^ (m + 1) = 18446744073709551616 * 2 ^ (m + 1 - 64) := two64 (m + 1) (by omega)
  have hq : 2 ^ (m - 64 + 1) ∣ qh := by
    rw [h64, show m + 1 - 64 = m - 64 + 1 by omega] at hd
    obtain ⟨k, hk⟩ := hd
    rw [Nat.mul_assoc] at hk
    refine ⟨k, ?_⟩
    omega
  refine ⟨?_, ?_, ?_⟩
  · rw [show ((2 : Int) ^ (m - 64)) = ((2 ^ (m - 64) : Nat) : Int) by push_cast; rfl]; exact wrapN _ (by omega)
  · rw [bits_or_u64_nat _ _ (d.hi_lt hN) (by omega), or_join (m - 64 + 1) _ _ hq (Nat.pow_lt_pow_right (by omega) (by omega))]
  · rw [two64 m hm, Nat.add_mul, Nat.mul_comm (2 ^ (m - 64))]; omega
theorem set_low {N D m qh ql r : Nat} (d : Dv N D (m + 1) qh ql r) (hm : m < 64) :
    IntKind.u64.wrap ((2 : Int) ^ m) = ((2 ^ m : Nat) : Int) ∧ bits .or .u64 (ql : Int) ((2 ^ m : Nat) : Int) = ((ql + 2 ^ m : Nat) : Int) ∧ ql + 2 ^ m < 18446744073709551616 := by
  have hp : 2 ^ m ≤ 2 ^ 63 := Nat.pow_le_pow_right (by omega) (by omega)
  have hd := d.dvd
  have hlo := d.lo
  have h64 := low64 m hm
  have hq : 2 ^ (m + 1) ∣ ql := by
    have h1 : 2 ^ (m + 1) ∣ qh * 18446744073709551616 := by
      rw [h64, ← Nat.mul_assoc (2 ^ m), ← Nat.pow_succ]
      exact ⟨qh * 2 ^ (63 - m), by rw [Nat.mul_left_comm]⟩
    exact (Nat.dvd_add_right h1).1 hd
  refine ⟨?_, ?_, ?_⟩
  · rw [show ((2 : Int) ^ m) = ((2 ^ m : Nat) : Int) by push_cast; rfl]; exact wrapN _ (by omega)
  · rw [bits_or_u64_nat _ _ hlo (by omega), or_join (m + 1) _ _ hq (Nat.pow_lt_pow_right (by omega) (by omega))]
  · obtain ⟨k, hk⟩ := hq
    have h2 : 2 ^ m * (2 * k) < 2 ^ m * (2 * 2 ^ (63 - m)) := by rw [← h64, ← Nat.mul_assoc, ← Nat.pow_succ, ← hk]; exact hlo
    have h3 := Nat.lt_of_mul_lt_mul_left h2
    have h4 := Nat.mul_le_mul_left (2 ^ m) (show 2 * k + 2 ≤ 2 * 2 ^ (63 - m) by omega)
    rw [← h64, Nat.mul_add, ← Nat.mul_assoc, ← Nat.pow_succ, ← hk] at h4
    omega
theorem mask1 (a : Nat) (ha : a < 18446744073709551616) : bits .and .u64 (a : Int) 1 = ((a % 2 : Nat) : Int) := by
  have h := bits_and_u64_nat a 1 ha (by omega)
  have e : a &&& 1 = a % 2 := Nat.and_two_pow_sub_one_eq_mod a 1
  rw [e] at h
  exact h
theorem or_bit1 (a b : Nat) (hb : b < 2) : bits .or .u64 ((a * 2 % 18446744073709551616 : Nat) : Int) (b : Int) = ((a * 2 % 18446744073709551616 + b : Nat) : Int) := by
  rw [bits_or_u64_nat _ _ (Nat.mod_lt _ (by omega)) (by omega), or_join 1 _ _ (by omega) (by omega)]
/-- What a round does to the rest, and which way it goes. -/
theorem rest_ways (r b D : Nat) (hb : b < 2) (hr : r < D) (hD : D < 18446744073709551616) :
    ∃ O R2 R3 : Nat, (r : Int) / 9223372036854775808 = (O : Int) ∧ IntKind.u64.wrap ((r : Int) * 2) = (R2 : Int) ∧ bits .or .u64 (R2 : Int) (b : Int) = (R3 : Int) ∧
      ((D ≤ 2 * r + b ∧ ∃ R4 : Nat, IntKind.u64.wrap ((R3 : Int) - (D : Int)) = (R4 : Int) ∧ R4 = 2 * r + b - D ∧ (((O : Int) == 1) = true ∨ (((O : Int) == 1) = false ∧ decide (D ≤ R3) = true))) ∨
       (¬ D ≤ 2 * r + b ∧ R3 = 2 * r + b ∧ ((O : Int) == 1) = false ∧ decide (D ≤ R3) = false)) := by
  refine ⟨r / 9223372036854775808, r * 2 % 18446744073709551616, r * 2 % 18446744073709551616 + b, by omega, ?_, or_bit1 r b hb, ?_⟩
  · rw [show ((r : Int) * 2) = ((r * 2 : Nat) : Int) by omega]; exact wrapM _
  · by_cases h : D ≤ 2 * r + b
    · refine Or.inl ⟨h, 2 * r + b - D, ?_, rfl, ?_⟩
      · rw [wrapU]; omega
      · by_cases c : r / 9223372036854775808 = 1
        · exact Or.inl (by rw [beq_iff_eq]; omega)
        · exact Or.inr ⟨by rw [beq_eq_false_iff_ne]; omega, decide_eq_true (by omega)⟩
    · exact Or.inr ⟨h, by omega, by rw [beq_eq_false_iff_ne]; omega, decide_eq_false (by omega)⟩
/-- The bit that a round reads. -/
theorem bit_read_high (hi lo m : Nat) (hhi : hi < 18446744073709551616) (hlo : lo < 18446744073709551616) (hm : 64 ≤ m) :
    bits .and .u64 ((hi : Int) / 2 ^ (m - 64)) 1 = (((hi * 18446744073709551616 + lo) / 2 ^ m % 2 : Nat) : Int) := by
  rw [bit_high hi lo m hlo hm, ← mask1 _ (Nat.lt_of_le_of_lt (Nat.div_le_self _ _) hhi)]
  push_cast; rfl
theorem bit_read_low (hi lo m : Nat) (hlo : lo < 18446744073709551616) (hm : m < 64) :
    bits .and .u64 ((lo : Int) / 2 ^ (m % 64)) 1 = (((hi * 18446744073709551616 + lo) / 2 ^ m % 2 : Nat) : Int) := by
  rw [bit_low hi lo m hm, ← mask1 _ (Nat.lt_of_le_of_lt (Nat.div_le_self _ _) hlo), Nat.mod_eq_of_lt hm]
  push_cast; rfl
theorem Dv.first (N D : Nat) (hN : N < 18446744073709551616 * 18446744073709551616) : Dv N D 128 0 0 0 := by
  have h : N / 2 ^ 128 = 0 := Nat.div_eq_of_lt (Nat.lt_of_lt_of_eq hN (by decide))
  exact ⟨by rw [h, Nat.zero_div, Nat.zero_mul], by rw [h, Nat.zero_mod], by decide⟩
end Go.Proofs.Ytglniapfnhedoaa

namespace Go.Proofs.Ytglniapfnhedoaa
open Go.RowKit
/-- What a round keeps: the halves that are read, those that are written, and all that was there. -/
structure Kept (hi lo qh ql : Nat) (w wr : World) : Prop where
  x0 : wr.cell? ⟨w.heap.size, 0, none⟩ = some (.int .u64 hi)
  x1 : wr.cell? ⟨w.heap.size, 1, none⟩ = some (.int .u64 lo)
  y0 : wr.cell? ⟨w.heap.size + 1 + 1, 0, none⟩ = some (.int .u64 qh)
  y1 : wr.cell? ⟨w.heap.size + 1 + 1, 1, none⟩ = some (.int .u64 ql)
  z0 : wr.frozen? ⟨w.heap.size + 1 + 1, 0, none⟩ = false
  z1 : wr.frozen? ⟨w.heap.size + 1 + 1, 1, none⟩ = false
  r0 : ∃ v, wr.cell? ⟨w.heap.size + 1, 0, none⟩ = some v
  r1 : ∃ v, wr.cell? ⟨w.heap.size + 1, 1, none⟩ = some v
  s0 : wr.frozen? ⟨w.heap.size + 1, 0, none⟩ = false
  s1 : wr.frozen? ⟨w.heap.size + 1, 1, none⟩ = false
  q : Q w wr
theorem Kept.high {hi lo qh ql : Nat} {w wr : World} (h : Kept hi lo qh ql w wr) (x : Nat) : Kept hi lo x ql w (wr.setCell ⟨w.heap.size + 1 + 1, 0, none⟩ (.int .u64 x)).drew := by
  have y0 := h.y0
  obtain ⟨v0, e0⟩ := h.r0
  obtain ⟨v1, e1⟩ := h.r1
  exact ⟨by simp [go_sem, h.x0], by simp [go_sem, h.x1], by simp [go_sem, h.y0], by simp [go_sem, h.y1], by simp [go_sem, h.z0], by simp [go_sem, h.z1], ⟨v0, by simp [go_sem, e0]⟩, ⟨v1, by simp [go_sem, e1]⟩, by simp [go_sem, h.s0], by simp [go_sem, h.s1], (h.q.setCell (by simp; omega) _).drew⟩
theorem Kept.low {hi lo qh ql : Nat} {w wr : World} (h : Kept hi lo qh ql w wr) (x : Nat) : Kept hi lo qh x w (wr.setCell ⟨w.heap.size + 1 + 1, 1, none⟩ (.int .u64 x)).drew := by
  have y1 := h.y1
  obtain ⟨v0, e0⟩ := h.r0
  obtain ⟨v1, e1⟩ := h.r1
  exact ⟨by simp [go_sem, h.x0], by simp [go_sem, h.x1], by simp [go_sem, h.y0], by simp [go_sem, h.y1], by simp [go_sem, h.z0], by simp [go_sem, h.z1], ⟨v0, by simp [go_sem, e0]⟩, ⟨v1, by simp [go_sem, e1]⟩, by simp [go_sem, h.s0], by simp [go_sem, h.s1], (h.q.setCell (by simp; omega) _).drew⟩
set_option maxRecDepth 100000 in
theorem divided_any (hi lo D : Nat) (hD : 0 < D) (hDl : D < 18446744073709551616) (hhi : hi < 18446744073709551616) (hlo : lo < 18446744073709551616) (w : World) :
    Calls Try.prog 58 #[.agg #[.int .u64 hi, .int .u64 lo], .int .u64 D] w fun e w' => (∃ qh ql : Nat, qh * 18446744073709551616 + ql = dq hi lo D ∧ ql < 18446744073709551616 ∧ e = .returned (.tuple #[.agg #[.int .u64 qh, .int .u64 ql], .bool (decide (0 < dr hi lo D))])) ∧ Q w w' := by
  have hN : hi * 18446744073709551616 + lo < 18446744073709551616 * 18446744073709551616 := by omega
  have D0 := Dv.first _ D hN
  go_enter Try.func58, Try.ntmps58
  go_wp2
  go_loopw [7, 8] (fun x y wr => ∃ n r qh ql : Nat, n ≤ 128 ∧ Dv (hi * 18446744073709551616 + lo) D n qh ql r ∧ x = .int .u64 r ∧ y = .int .i64 ((n : Int) - 1) ∧ Kept hi lo qh ql w wr) (fun _ y _ => (intOf y + 1).toNat)
  case atStart =>
    refine ⟨128, 0, 0, 0, Nat.le_refl _, D0, rfl, rfl, ?_⟩
    exact ⟨by simp [go_sem], by simp [go_sem], by simp [go_sem], by simp [go_sem], by simp [go_sem], by simp [go_sem], ⟨_, by simp [go_sem]; rfl⟩, ⟨_, by simp [go_sem]; rfl⟩, by simp [go_sem], by simp [go_sem], (((Q.refl w).alloc _ _).alloc _ _).alloc _ _⟩
  case round =>
    clear D0
    obtain ⟨n, r, qh, ql, hn, hd, rfl, rfl, hk⟩ := hrel
    cases n with
    | zero =>
      have y0 := hk.y0
      have y1 := hk.y1
      have s0 := hk.s0
      have s1 := hk.s1
      obtain ⟨v0, r0⟩ := hk.r0
      obtain ⟨v1, r1⟩ := hk.r1
      have e1 : ((0 : Nat) : Int) - 1 = -1 := by omega
      rw [e1]
      clear e1
      have hquo := hd.quo
      have hrest := hd.rest
      have hlo' := hd.lo
      rw [Nat.pow_zero, Nat.div_one, Nat.mul_one] at hquo
      rw [Nat.pow_zero, Nat.div_one] at hrest
      have HQ := Lib.hid hquo
      have hR0 : ((r : Int) != 0) = decide (0 < dr hi lo D) := by
        have : dr hi lo D = r := hrest.symm
        rw [this, Bool.eq_iff_iff]; simp; omega
      generalize hrb : decide (0 < dr hi lo D) = rb at *
      have Hrb := Lib.hid hrb
      clear hquo hrest hd hrb
      go_wp2
      refine bodyPost_ret (v := .tuple #[.agg #[.int .u64 qh, .int .u64 ql], .bool rb]) (by simp [results, Try.results58, go_sem, r0, r1]) rfl ⟨⟨qh, ql, HQ.out, hlo', by rw [Hrb.out]⟩, ?_⟩
      exact (hk.q.setCell (by simp) _).setCell (by simp) _
    | succ m =>
      have e1 : ((m + 1 : Nat) : Int) - 1 = (m : Int) := by omega
      rw [e1]
      clear e1
      have hrD : r < D := by rw [hd.rest]; exact Nat.mod_lt _ hD
      have hb2 : (hi * 18446744073709551616 + lo) / 2 ^ m % 2 < 2 := Nat.mod_lt _ (by omega)
      obtain ⟨O, R2, R3, o1, o2, o3, ways⟩ := rest_ways r _ D hb2 hrD hDl
      have y0 := hk.y0
      have z0 := hk.z0
      have y1 := hk.y1
      have z1 := hk.z1
      have x0 := hk.x0
      have x1 := hk.x1
      by_cases hm : 64 ≤ m
      · have hB : decide ((63 : Int) < (m : Int)) = true := decide_eq_true (by omega)
        have hbit := bit_read_high hi lo m hhi hlo hm
        rcases ways with ⟨c1, R4, c2, c3, c4⟩ | ⟨c1, c2, c3, c4⟩
        · obtain ⟨t1, t2, t3⟩ := set_high hd hN hm (by omega)
          have tk := hd.take hD c1
          rw [← t3, ← c3] at tk
          have hd' : Dv (hi * 18446744073709551616 + lo) D m (qh + 2 ^ (m - 64)) ql R4 := ⟨tk.1, tk.2, hd.lo⟩
          clear tk t3 c1 c3 hd
          generalize (hi * 18446744073709551616 + lo) / 2 ^ m % 2 = b at *
          generalize 2 ^ (m - 64) = T at *
          generalize qh + T = X at *
          rcases c4 with c4 | ⟨c4, c5⟩
          all_goals
            go_wp2
            go_region
            go_wp2
            go_roundw
            case rel => exact ⟨m, R4, X, ql, by omega, hd', rfl, rfl, hk.high X⟩
            case measure => simp [intOf]
        · have hd' := hd.leave hD c1
          rw [← c2] at hd'
          clear c1 c2 hd
          generalize (hi * 18446744073709551616 + lo) / 2 ^ m % 2 = b at *
          go_wp2
          go_roundw
          case rel => exact ⟨m, R3, qh, ql, by omega, hd', rfl, rfl, hk⟩
          case measure => simp [intOf]
      · have hB : decide ((63 : Int) < (m : Int)) = false := decide_eq_false (by omega)
        have hbit := bit_read_low hi lo m hlo (by omega)
        rcases ways with ⟨c1, R4, c2, c3, c4⟩ | ⟨c1, c2, c3, c4⟩
        · obtain ⟨t1, t2, t3⟩ := set_low hd (by omega)
          have tk := hd.take hD c1
          rw [← c3, Nat.add_assoc] at tk
          have hd' : Dv (hi * 18446744073709551616 + lo) D m qh (ql + 2 ^ m) R4 := ⟨tk.1, tk.2, t3⟩
          clear tk t3 c1 c3 hd
          generalize (hi * 18446744073709551616 + lo) / 2 ^ m % 2 = b at *
          generalize 2 ^ m = T at *
          generalize ql + T = X at *
          rcases c4 with c4 | ⟨c4, c5⟩
          all_goals
            go_wp2
            go_region
            go_wp2
            go_roundw
            case rel => exact ⟨m, R4, qh, X, by omega, hd', rfl, rfl, hk.low X⟩
            case measure => simp [intOf]
        · have hd' := hd.leave hD c1
          rw [← c2] at hd'
          clear c1 c2 hd
          generalize (hi * 18446744073709551616 + lo) / 2 ^ m % 2 = b at *
          go_wp2
          go_roundw
          case rel => exact ⟨m, R3, qh, ql, by omega, hd', rfl, rfl, hk⟩
          case measure => simp [intOf]
/-- The quotient's halves, and one more. -/
theorem up_one (qh ql : Nat) (h : ql < 18446744073709551616) (h2 : qh < 18446744073709551615) :
    (∃ l : Nat, IntKind.u64.wrap ((ql : Int) + 1) = (l : Int) ∧ ((l : Int) == 0) = false ∧ l < 18446744073709551616 ∧ qh * 18446744073709551616 + l = qh * 18446744073709551616 + ql + 1) ∨
    (∃ k : Nat, IntKind.u64.wrap ((ql : Int) + 1) = 0 ∧ IntKind.u64.wrap ((qh : Int) + 1) = (k : Int) ∧ k * 18446744073709551616 + 0 = qh * 18446744073709551616 + ql + 1) := by
  by_cases c : ql = 18446744073709551615
  · refine Or.inr ⟨qh + 1, ?_, ?_, by omega⟩
    · rw [wrapU]; omega
    · rw [wrapU]; omega
  · refine Or.inl ⟨ql + 1, ?_, ?_, by omega, by omega⟩
    · rw [wrapU]; omega
    · rw [beq_eq_false_iff_ne]; omega
/-- As a caller spells the halves. -/
theorem rsigned_int (x z : Int) (hi lo : Nat) (neg : Bool) (hx : x = (hi : Int)) (hz : z = (lo : Int)) (hlo : lo < 18446744073709551616) (v : Int) (hv : sg neg (hi * 18446744073709551616 + lo) = v) (w : World) :
    Calls Try.prog 62 #[.agg #[.int .u64 x, .int .u64 z], .bool neg] w fun e w' => e = .returned (.tuple #[.int .i64 (qv v), .bool (decide (I64 v))]) ∧ Q w w' := by
  subst hx hz hv
  exact rsigned_any hi lo neg hlo w
theorem rmuldiv_zero (a b : Int) (up : Bool) (w : World) :
    Calls Try.prog 53 #[.int .i64 a, .int .i64 b, .int .i64 0, .bool up] w fun e w' => e = .returned (.tuple #[.int .i64 0, .int .i64 22]) ∧ w = w' := by
  go_enter Try.func53, Try.ntmps53
  go_wp2
  go_ret2
  exact ⟨rfl, rfl⟩
set_option maxHeartbeats 1000000 in
theorem rmuldiv_any (a b y : Int) (up : Bool) (ha : I64 a) (hb : I64 b) (hy : I64 y) (w : World) :
    Calls Try.prog 53 #[.int .i64 a, .int .i64 b, .int .i64 y, .bool up] w fun e w' => e = .returned (.tuple #[.int .i64 (mv a b y up), .int .i64 (me a b y up)]) ∧ Q w w' := by
  by_cases h0 : y = 0
  · subst h0
    exact (rmuldiv_zero a b up w).mono fun _ _ h => ⟨by rw [h.1]; rfl, by rw [← h.2]; exact Q.refl _⟩
  · have em : mv a b y up = qv (mq a b y up) ∧ me a b y up = qe (mq a b y up) := ⟨if_neg h0, if_neg h0⟩
    rw [em.1, em.2, mq_eq a b y up h0]
    clear em
    have hne : (y == 0) = false := by simpa using h0
    have nbT : y < 0 → (decide (a < 0) == decide (b < 0)) = nb a b y := fun h => by unfold nb; rw [decide_eq_true h]; cases decide (a < 0) <;> cases decide (b < 0) <;> rfl
    have nbF : ¬ y < 0 → (decide (a < 0) == decide (b < 0)) = !nb a b y := fun h => by unfold nb; rw [decide_eq_false h]; cases decide (a < 0) <;> cases decide (b < 0) <;> rfl
    generalize nb a b y = neg at *
    have cA := fun w => amount_any a ha w
    have cB := fun w => amount_any b hb w
    have cY := fun w => amount_any y hy w
    have lA := (abs_lt a ha).1
    have lB := (abs_lt b hb).1
    have lY := (abs_lt y hy).1
    have pY : 0 < y.natAbs := by omega
    have lA2 := (abs_lt a ha).2
    have lB2 := (abs_lt b hb).2
    generalize a.natAbs = A at *
    generalize b.natAbs = B at *
    generalize y.natAbs = Y at *
    have cT := fun w => times_any A B lA lB w
    have lH : hi64 A B < 18446744073709551616 := by
      unfold hi64
      rw [Nat.div_lt_iff_lt_mul (by omega)]
      have := Nat.mul_le_mul (Nat.le_of_lt_succ lA) (Nat.le_of_lt_succ lB)
      omega
    have cD := fun w => divided_any (hi64 A B) (lo64 A B) Y pY lY lH (lo64_lt _ _) w
    have hh := halves A B
    have hprod : A * B ≤ 9223372036854775808 * 9223372036854775808 := Nat.mul_le_mul lA2 lB2
    have hdq : dq (hi64 A B) (lo64 A B) Y = A * B / Y := by unfold dq; rw [hh]
    have hdr : dr (hi64 A B) (lo64 A B) Y = A * B % Y := by unfold dr; rw [hh]
    rw [hdq, hdr] at cD
    generalize hi64 A B = H at *
    generalize lo64 A B = L at *
    clear hh hdq hdr lA lB lA2 lB2
    have hql : A * B / Y ≤ 9223372036854775808 * 9223372036854775808 := Nat.le_trans (Nat.div_le_self _ _) hprod
    unfold qu
    generalize A * B / Y = K at *
    generalize A * B % Y = R at *
    clear hprod ha hb hy h0
    have hys : (decide (y < 0) = true ∧ (decide (a < 0) == decide (b < 0)) = neg) ∨ (decide (y < 0) = false ∧ (decide (a < 0) == decide (b < 0)) = !neg) := by
      by_cases h : y < 0
      · exact Or.inl ⟨decide_eq_true h, nbT h⟩
      · exact Or.inr ⟨decide_eq_false h, nbF h⟩
    clear nbT nbF
    have ways : (decide (0 < R) = false ∧ (K + if (up != neg && decide (0 < R)) = true then 1 else 0) = K) ∨
        (decide (0 < R) = true ∧ neg = up ∧ (K + if (up != neg && decide (0 < R)) = true then 1 else 0) = K) ∨
        (decide (0 < R) = true ∧ neg = !up ∧ (K + if (up != neg && decide (0 < R)) = true then 1 else 0) = K + 1) := by
      by_cases hR : 0 < R
      · by_cases hu : neg = up
        · exact Or.inr (Or.inl ⟨decide_eq_true hR, hu, by rw [hu]; simp⟩)
        · have hn : neg = !up := by revert hu; cases up <;> cases neg <;> simp
          exact Or.inr (Or.inr ⟨decide_eq_true hR, hn, by rw [hn]; simp [hR]⟩)
      · exact Or.inl ⟨decide_eq_false hR, by simp [hR]⟩
    rcases ways with ⟨k1, k2⟩ | ⟨k1, k3, k2⟩ | ⟨k1, k3, k2⟩
    · rw [k2]
      rw [k1] at cD
      clear k1 k2
      have cG := fun w => told_qv (sg neg K) w
      generalize hv : sg neg K = v at *
      have Hv := Lib.hid hv
      clear hv
      rcases hys with ⟨j1, j2⟩ | ⟨j1, j2⟩
      all_goals
        go_enter Try.func53, Try.ntmps53
        go_wp2_with fail
        refine (cA _).mono ?_
        rintro e w1 ⟨rfl, rfl⟩
        go_wp2_with fail
        refine (cB _).mono ?_
        rintro e w1 ⟨rfl, rfl⟩
        go_wp2_with fail
        refine (cT _).mono ?_
        rintro e w1 ⟨rfl, q1⟩
        go_wp2_with fail
        refine (cY _).mono ?_
        rintro e w2 ⟨rfl, rfl⟩
        go_wp2_with fail
        refine (cD _).mono ?_
        rintro e w2 ⟨⟨qh, ql, u1, u2, rfl⟩, q2⟩
        have U1 := Lib.hid u1
        clear u1
        go_wp2_with fail
        refine (rsigned_int _ _ qh ql _ rfl rfl u2 v (by rw [U1.out]; exact Hv.out) _).mono ?_
        rintro e w3 ⟨rfl, q3⟩
        go_wp2_with fail
        refine (cG _).mono ?_
        rintro e w4 ⟨rfl, rfl⟩
        go_wp2
        go_ret2
        exact ⟨rfl, ((q1.trans q2).alloc _ _).trans q3⟩
    · rw [k2]
      rw [k1] at cD
      clear k1 k2
      subst k3
      have cG := fun w => told_qv (sg neg K) w
      generalize hv : sg neg K = v at *
      have Hv := Lib.hid hv
      clear hv
      cases neg
      all_goals
        rcases hys with ⟨j1, j2⟩ | ⟨j1, j2⟩
        all_goals
          go_enter Try.func53, Try.ntmps53
          go_wp2_with fail
          refine (cA _).mono ?_
          rintro e w1 ⟨rfl, rfl⟩
          go_wp2_with fail
          refine (cB _).mono ?_
          rintro e w1 ⟨rfl, rfl⟩
          go_wp2_with fail
          refine (cT _).mono ?_
          rintro e w1 ⟨rfl, q1⟩
          go_wp2_with fail
          refine (cY _).mono ?_
          rintro e w2 ⟨rfl, rfl⟩
          go_wp2_with fail
          refine (cD _).mono ?_
          rintro e w2 ⟨⟨qh, ql, u1, u2, rfl⟩, q2⟩
          have U1 := Lib.hid u1
          clear u1
          go_wp2_with fail
          refine (rsigned_int _ _ qh ql _ rfl rfl u2 v (by rw [U1.out]; exact Hv.out) _).mono ?_
          rintro e w3 ⟨rfl, q3⟩
          go_wp2_with fail
          refine (cG _).mono ?_
          rintro e w4 ⟨rfl, rfl⟩
          go_wp2
          go_ret2
          exact ⟨rfl, ((q1.trans q2).alloc _ _).trans q3⟩
    · rw [k2]
      rw [k1] at cD
      clear k1 k2
      have cG := fun w => told_qv (sg neg (K + 1)) w
      generalize hv : sg neg (K + 1) = v at *
      have Hv := Lib.hid hv
      clear hv
      subst k3
      cases up
      all_goals
        rcases hys with ⟨j1, j2⟩ | ⟨j1, j2⟩
        all_goals
          go_enter Try.func53, Try.ntmps53
          go_wp2_with fail
          refine (cA _).mono ?_
          rintro e w1 ⟨rfl, rfl⟩
          go_wp2_with fail
          refine (cB _).mono ?_
          rintro e w1 ⟨rfl, rfl⟩
          go_wp2_with fail
          refine (cT _).mono ?_
          rintro e w1 ⟨rfl, q1⟩
          go_wp2_with fail
          refine (cY _).mono ?_
          rintro e w2 ⟨rfl, rfl⟩
          go_wp2_with fail
          refine (cD _).mono ?_
          rintro e w2 ⟨⟨qh, ql, u1, u2, rfl⟩, q2⟩
          have ups := up_one qh ql u2 (by omega)
          have U1 := Lib.hid u1
          clear u1
          rcases ups with ⟨l, p1, p2, p3, p4⟩ | ⟨l, p1, p2, p3⟩
          · have P4 := Lib.hid p4
            clear p4
            go_wp2_with fail
            refine (rsigned_int _ _ qh l _ rfl rfl p3 v (by rw [P4.out, U1.out]; exact Hv.out) _).mono ?_
            rintro e w3 ⟨rfl, q3⟩
            go_wp2_with fail
            refine (cG _).mono ?_
            rintro e w4 ⟨rfl, rfl⟩
            go_wp2
            go_ret2
            exact ⟨rfl, ((q1.trans q2).alloc _ _).trans q3⟩
          · have P3 := Lib.hid p3
            clear p3
            go_wp2_with fail
            refine (rsigned_int _ _ l 0 _ rfl rfl (by omega) v (by rw [P3.out, U1.out]; exact Hv.out) _).mono ?_
            rintro e w3 ⟨rfl, q3⟩
            go_wp2_with fail
            refine (cG _).mono ?_
            rintro e w4 ⟨rfl, rfl⟩
            go_wp2
            go_ret2
            exact ⟨rfl, ((q1.trans q2).alloc _ _).trans q3⟩
end Go.Proofs.Ytglniapfnhedoaa

namespace Go.Proofs.Ytglniapfnhedoaa
open Go.RowKit
/-- Those that must come before, as bits. -/
def amOf (md : Region.Mode) (o : Oper) : Nat := o.after.toList.foldr (fun e m => if Region.binds md e then m ||| 2 ^ e.on else m) 0
/-- Those that touch the same slots and don't wait for it, as bits. -/
def cfOf (md : Region.Mode) (ops : Array Oper) (oi : Oper) (i : Nat) : List Oper → Nat → Nat
  | [], _ => 0
  | oj :: l, j => (if j == i || (amOf md oj).testBit i || oi.apart ops oj then 0 else 2 ^ j) ||| cfOf md ops oi i l (j + 1)
def cfAll (md : Region.Mode) (ops : Array Oper) : List Oper → Nat → List Nat
  | [], _ => []
  | oi :: l, i => cfOf md ops oi i ops.toList 0 :: cfAll md ops l (i + 1)
/-- May they come up so? 0: taken; 1: passed over; 2: the only one that may come up. -/
def seqOk (n : Nat) (am cf : List Nat) : List (Nat × Nat) → Nat → Bool
  | [], done => (List.range n).all done.testBit
  | (i, k) :: l, done => decide (i < n) && !done.testBit i && (am.getD i 0 &&& done == am.getD i 0) &&
      (if k < 2 then (cf.getD i 0 &&& done == cf.getD i 0) else (List.range n).all (fun j => j == i || done.testBit j || !(am.getD j 0 &&& done == am.getD j 0))) && seqOk n am cf l (done ||| 2 ^ i)
def wpSeq (P : Program) (ops : Array Oper) (Q : Exit → Act → World → Prop) (S : World → Prop) : List (Nat × Nat) → Act → World → Prop
  | [], a, w => Q .normal a w
  | (i, k) :: l, a, w => ∃ o, ops[i]? = some o ∧
      (if k = 0 then ∃ v, (Region.wanted o (yielded ops a.tmps) = true ∧ ∀ w, S w → (execOp a.eval o).run P w = .ok (.value v) w) ∧ wpSeq P ops Q S l (a.put o.dst v) w
      else if k = 1 then Region.wanted o (yielded ops a.tmps) = false ∧ wpSeq P ops Q S l (a.put o.dst undef) w
      else wpOp P ops Q i (fun a' w' => S w' ∧ wpSeq P ops Q S l a' w') a w)
theorem testBit_pow (a b : Nat) : (2 ^ a).testBit b = decide (a = b) := Nat.testBit_two_pow
theorem amOf_bit (md : Region.Mode) (o : Oper) (k : Nat) : (amOf md o).testBit k = true ↔ ∃ e ∈ o.after, Region.binds md e = true ∧ e.on = k := by
  have h : ∀ l : List Edge, (l.foldr (fun e m => if Region.binds md e then m ||| 2 ^ e.on else m) 0).testBit k = true ↔ ∃ e ∈ l, Region.binds md e = true ∧ e.on = k := by
    intro l
    induction l with
    | nil => simp
    | cons e l ih =>
      rw [List.foldr_cons]
      by_cases hb : Region.binds md e = true
      · rw [if_pos hb, Nat.testBit_or, Bool.or_eq_true, ih, testBit_pow]
        simp [hb]
        constructor
        · rintro (h | h)
          · exact Or.inr h
          · exact Or.inl h
        · rintro (h | h)
          · exact Or.inr h
          · exact Or.inl h
      · rw [if_neg hb, ih]
        simp [hb]
  unfold amOf
  rw [h]
  simp
theorem sub_bits {a b : Nat} (h : (a &&& b == a) = true) (k : Nat) (hk : a.testBit k = true) : b.testBit k = true := by
  have e : a &&& b = a := by simpa using h
  rw [← e, Nat.testBit_and, Bool.and_eq_true] at hk
  exact hk.2
theorem bits_sub {a b : Nat} (h : ∀ k, a.testBit k = true → b.testBit k = true) : (a &&& b == a) = true := by
  rw [beq_iff_eq]
  refine Nat.eq_of_testBit_eq fun k => ?_
  rw [Nat.testBit_and]
  cases e : a.testBit k
  · rfl
  · rw [h k e]; rfl
theorem cfOf_bit (md : Region.Mode) (ops : Array Oper) (oi : Oper) (i j : Nat) (oj : Oper) (hji : j ≠ i) (hn : (amOf md oj).testBit i = false) (ha : oi.apart ops oj = false) :
    ∀ (l : List Oper) (s k : Nat), l[k]? = some oj → s + k = j → (cfOf md ops oi i l s).testBit j = true
  | [], _, _, h, _ => by simp at h
  | o :: l, s, 0, h, e => by
    simp at h e
    subst h e
    unfold cfOf
    rw [Nat.testBit_or, if_neg (by simp [hji, hn, ha]), testBit_pow]
    simp
  | o :: l, s, k + 1, h, e => by
    unfold cfOf
    rw [Nat.testBit_or, cfOf_bit md ops oi i j oj hji hn ha l (s + 1) k (by simpa using h) (by omega)]
    simp
theorem cfAll_get (md : Region.Mode) (ops : Array Oper) : ∀ (l : List Oper) (s k : Nat) (o : Oper), l[k]? = some o → (cfAll md ops l s)[k]? = some (cfOf md ops o (s + k) ops.toList 0)
  | [], _, _, _, h => by simp at h
  | o :: l, s, 0, _, h => by simp at h; subst h; simp [cfAll]
  | _ :: l, s, k + 1, o, h => by
    unfold cfAll
    rw [List.getElem?_cons_succ, cfAll_get md ops l (s + 1) k o (by simpa using h)]
    congr 2
    omega
/-- The list of those that have come up, and its bits. -/
structure Inv (n : Nat) (listed : Array Bool) (done : Nat) : Prop where
  size : listed.size = n
  get : ∀ j, j < n → listed[j]? = some (done.testBit j)
  far : ∀ j, n ≤ j → done.testBit j = false
theorem Inv.getF {n done j : Nat} {listed : Array Bool} (h : Inv n listed done) : listed.getD j false = done.testBit j := by
  by_cases c : j < n
  · rw [Array.getD_eq_getD_getElem?, h.get j c]; rfl
  · rw [Array.getD_eq_getD_getElem?, Array.getElem?_eq_none (by rw [h.size]; omega), h.far j (by omega)]; rfl
theorem Inv.getT {n done j : Nat} {listed : Array Bool} (h : Inv n listed done) (c : j < n) : listed.getD j true = done.testBit j := by
  rw [Array.getD_eq_getD_getElem?, h.get j c]; rfl
theorem Inv.set {n done i : Nat} {listed : Array Bool} (h : Inv n listed done) (hi : i < n) : Inv n (listed.setIfInBounds i true) (done ||| 2 ^ i) where
  size := by rw [Array.size_setIfInBounds, h.size]
  get j hj := by
    rw [Array.getElem?_setIfInBounds, Nat.testBit_or, testBit_pow]
    by_cases e : i = j
    · subst e; simp [h.size, hj]
    · rw [if_neg e, h.get j hj]; simp [e]
  far j hj := by
    rw [Nat.testBit_or, testBit_pow, h.far j hj]
    simp; omega
theorem Inv.start (n : Nat) : Inv n (Array.replicate n false) 0 where
  size := by simp
  get j hj := by simp [hj]
  far j _ := by simp
theorem wpAnyH_seq {P : Program} {md : Region.Mode} {ops : Array Oper} {Q : Exit → Act → World → Prop} {S : World → Prop} (am cf : List Nat)
    (ham : ops.toList.map (amOf md) = am) (hcf : cfAll md ops ops.toList 0 = cf) (hs : Region.noSelect ops = true)
    (hQ : ∀ c a w d v, Q (.panic c) (Act.put a d v) w → Q (.panic c) a w) :
    ∀ (l : List (Nat × Nat)) (done : Nat) (listed : Array Bool) (a : Act) (w : World), Inv ops.size listed done → seqOk ops.size am cf l done = true → S w →
      wpSeq P ops Q S l a w → wpAnyH P md ops Q S l.length listed a w := by
  have am_get : ∀ (i : Nat) (o : Oper), ops[i]? = some o → am.getD i 0 = amOf md o := by
    intro i o ho
    rw [← ham, List.getD_eq_getElem?_getD, List.getElem?_map, Array.getElem?_toList, ho]; rfl
  have cf_get : ∀ (i : Nat) (o : Oper), ops[i]? = some o → cf.getD i 0 = cfOf md ops o i ops.toList 0 := by
    intro i o ho
    rw [← hcf, List.getD_eq_getElem?_getD, cfAll_get md ops ops.toList 0 i o (by rw [Array.getElem?_toList]; exact ho), Nat.zero_add]; rfl
  have is_ready : ∀ (i done : Nat) (listed : Array Bool) (o : Oper), Inv ops.size listed done → ops[i]? = some o → done.testBit i = false → (am.getD i 0 &&& done == am.getD i 0) = true → i ∈ Region.ready md ops listed := by
    intro i done listed o hI ho hd ha
    have hin : i < ops.size := (Array.getElem?_eq_some_iff.1 ho).1
    refine mem_ready.2 ⟨by rw [hI.getT hin]; exact hd, o, ho, fun e he hb => ?_⟩
    rw [hI.getF]
    rw [am_get i o ho] at ha
    exact sub_bits ha e.on ((amOf_bit md o e.on).2 ⟨e, he, hb, rfl⟩)
  have ready_is : ∀ (i done : Nat) (listed : Array Bool), Inv ops.size listed done → i ∈ Region.ready md ops listed → i < ops.size ∧ done.testBit i = false ∧ (am.getD i 0 &&& done == am.getD i 0) = true := by
    intro i done listed hI hr
    obtain ⟨h1, o, ho, h2⟩ := mem_ready.1 hr
    have hin : i < ops.size := (Array.getElem?_eq_some_iff.1 ho).1
    refine ⟨hin, by rw [← hI.getT hin]; exact h1, ?_⟩
    rw [am_get i o ho]
    refine bits_sub fun k hk => ?_
    obtain ⟨e, he, hb, rfl⟩ := (amOf_bit md o k).1 hk
    rw [← hI.getF]
    exact h2 e he hb
  intro l
  induction l with
  | nil =>
    intro done listed a w hI hk _ h
    refine ⟨?_, h⟩
    refine List.eq_nil_iff_forall_not_mem.2 fun i hi => ?_
    obtain ⟨h1, h2, _⟩ := ready_is i done listed hI hi
    have := List.all_eq_true.1 hk i (List.mem_range.2 h1)
    rw [h2] at this
    cases this
  | cons x l ih =>
    obtain ⟨i, k⟩ := x
    intro done listed a w hI hk hS h
    unfold seqOk at hk
    simp only [Bool.and_eq_true, decide_eq_true_eq, Bool.not_eq_true'] at hk
    obtain ⟨⟨⟨⟨k1, k2⟩, k3⟩, k4⟩, k5⟩ := hk
    obtain ⟨o, ho, h⟩ := h
    have hr := is_ready i done listed o hI ho k2 k3
    have hI' := hI.set k1
    have hfree : k < 2 → ∀ j oj, ops[j]? = some oj → j ≠ i → listed.getD j true = false → (∀ e ∈ oj.after, Region.binds md e = true → e.on ≠ i) → o.apart ops oj = true := by
      intro hk2 j oj hj hji hun hno
      rw [if_pos hk2, cf_get i o ho] at k4
      cases c : o.apart ops oj
      · exfalso
        have hjn : j < ops.size := (Array.getElem?_eq_some_iff.1 hj).1
        have hb : (amOf md oj).testBit i = false := by
          cases e : (amOf md oj).testBit i
          · rfl
          · obtain ⟨x, hx, hxb, hxi⟩ := (amOf_bit md oj i).1 e
            exact absurd hxi (hno x hx hxb)
        have := sub_bits k4 j (cfOf_bit md ops o i j oj hji hb c ops.toList 0 j (by rw [Array.getElem?_toList]; exact hj) (Nat.zero_add _))
        rw [hI.getT hjn, this] at hun
        cases hun
      · rfl
    rw [List.length_cons]
    by_cases c0 : k = 0
    · rw [if_pos c0] at h
      obtain ⟨v, ⟨hw, hv⟩, h⟩ := h
      exact wpAnyH_first ho (Region.noSelect_spec hs) (fun c a w h => hQ c a w _ _ h) l.length listed a w (hfree (by omega)) hr (Or.inl ⟨hw, hv⟩) hS (ih _ _ _ _ hI' k5 hS h)
    · rw [if_neg c0] at h
      by_cases c1 : k = 1
      · rw [if_pos c1] at h
        exact wpAnyH_first ho (Region.noSelect_spec hs) (fun c a w h => hQ c a w _ _ h) l.length listed a w (hfree (by omega)) hr (Or.inr ⟨h.1, rfl⟩) hS (ih _ _ _ _ hI' k5 hS h.2)
      · rw [if_neg c1] at h
        refine ⟨fun e => (by rw [e] at hr; cases hr), fun j hj => ?_⟩
        have hji : j = i := by
          obtain ⟨q1, q2, q3⟩ := ready_is j done listed hI hj
          rw [if_neg (by omega)] at k4
          have := List.all_eq_true.1 k4 j (List.mem_range.2 q1)
          rw [q2, q3] at this
          simpa using this
        subst hji
        exact wpOp_mono (fun a' w' h' => ⟨h'.1, ih _ _ _ _ hI' k5 h'.1 h'.2⟩) h
/-- The beginning: the order, and that it may be. -/
theorem wp_region_seq {P : Program} {ops : Array Oper} {Q : Exit → Act → World → Prop} {S : World → Prop} {id : Nat} {a : Act} {w : World} (l : List (Nat × Nat)) (am cf : List Nat) (hm : P.follows .mixedOrders = true)
    (hk : (Region.noSelect ops && decide (l.length = ops.size) && decide (ops.toList.map (amOf .any) = am) && decide (cfAll .any ops ops.toList 0 = cf) && seqOk ops.size am cf l 0) = true)
    (hQ : ∀ c a w d v, Q (.panic c) (Act.put a d v) w → Q (.panic c) a w) (hS : S w.drew)
    (h : S w.drew → wpSeq P ops Q S l a w.drew) : (Code.region id ops true).wp P Q a w := by
  simp only [Bool.and_eq_true, decide_eq_true_eq] at hk
  obtain ⟨⟨⟨⟨h1, h2⟩, h3⟩, h4⟩, h5⟩ := hk
  refine wp_region_held_drew hm hS fun hS => ?_
  rw [← h2]
  have := wpAnyH_seq (P := P) (md := .any) (S := S) am cf h3 h4 h1 hQ l 0 (Array.replicate ops.size false) a w.drew (Inv.start _) h5 hS (h hS)
  rw [h2] at this ⊢
  exact this
/-- Taken: it yields its value in every world that meets S. -/
theorem wpSeq_take {P : Program} {ops : Array Oper} {Q : Exit → Act → World → Prop} {S : World → Prop} {l : List (Nat × Nat)} {t : List Value} {df : List _} {w : World} {i d : Nat} {o : Oper} {v : Value}
    (ho : ops.toList[i]? = some o) (hd : o.dst = some d) (hw : Region.wanted o (yielded ops t.toArray) = true)
    (hy : ∀ w, S w → (execOp (Act.eval { tmps := t.toArray, defers := df }) o).run P w = .ok (.value v) w)
    (h : wpSeq P ops Q S l { tmps := (t.set d v).toArray, defers := df } w) : wpSeq P ops Q S ((i, 0) :: l) { tmps := t.toArray, defers := df } w := by
  refine ⟨o, by rw [← Array.getElem?_toList]; exact ho, ?_⟩
  rw [if_pos rfl]
  refine ⟨v, ⟨hw, hy⟩, ?_⟩
  have e : Act.put { tmps := t.toArray, defers := df } o.dst v = { tmps := (t.set d v).toArray, defers := df } := by
    rw [hd]; simp [Act.put]
  rw [e]
  exact h
/-- Carried out in the world at hand: S is shown anew behind it. -/
theorem wpSeq_call {P : Program} {ops : Array Oper} {Q : Exit → Act → World → Prop} {S : World → Prop} {l : List (Nat × Nat)} {a : Act} {w : World} {i : Nat} {o : Oper}
    (ho : ops.toList[i]? = some o) (hw : Region.wanted o (yielded ops a.tmps) = true)
    (h : ∀ K' : Act → World → Prop, Shut (∀ a w, S w → (S w → wpSeq P ops Q S l a w) → K' a w) → Oper.wp P o a w K' Q) : wpSeq P ops Q S ((i, 2) :: l) a w := by
  rw [Array.getElem?_toList] at ho
  refine ⟨o, ho, ?_⟩
  rw [if_neg (by decide), if_neg (by decide)]
  refine wpOp_step ho fun K' hK => ?_
  rw [if_pos hw]
  exact h K' fun a w hS h => hK a w ⟨hS, h hS⟩
theorem wpSeq_done {P : Program} {ops : Array Oper} {Q : Exit → Act → World → Prop} {S : World → Prop} {a : Act} {w : World} (h : Q .normal a w) : wpSeq P ops Q S [] a w := h
end Go.Proofs.Ytglniapfnhedoaa

namespace Go.Proofs.Ytglniapfnhedoaa
open Go.RowKit
theorem straight_any (x0 x1 at_ h : Int) (up : Bool) (a0 : 0 ≤ x0) (b0 : x0 ≤ 20000) (a1 : 0 ≤ x1) (b1 : x1 ≤ 20000) (h0 : 0 ≤ at_) (h1 : at_ ≤ h) (hh : 1 ≤ h) (hI : I64 h) (w : World) :
    Calls Try.prog 40 #[.int .i64 x0, .int .i64 x1, .int .i64 at_, .int .i64 h, .bool up] w fun e w' => e = .returned (.int .i64 (sideM x0 x1 at_ h up)) ∧ Q w w' := by
  obtain ⟨f1, f2, f3, f4⟩ := side_fits a0 b0 a1 b1 h0 h1 hh up
  have c := fun w => rmuldiv_any (x1 - x0) at_ h up (by unfold I64; omega) (by unfold I64 at *; omega) hI w
  have e1 : IntKind.i64.wrap (x1 - x0) = x1 - x0 := wrapI (by omega) (by omega)
  unfold sideM at *
  generalize mv (x1 - x0) at_ h up = g at *
  generalize me (x1 - x0) at_ h up = g' at *
  have e2 : IntKind.i64.wrap (x0 + g) = x0 + g := wrapI (by omega) (by omega)
  clear f1 f2 f3 f4
  go_enter Try.func40, Try.ntmps40
  go_wp2_with fail
  refine (c _).mono ?_
  rintro e w1 ⟨rfl, h⟩
  go_wp2
  go_ret
  exact ⟨rfl, h⟩
set_option maxHeartbeats 4000000 in
theorem r3side_any (r : Bool) (h a0 b0 a1 b1 at_ : Int) (up : Bool) (w : World) (hI : Sec.I ⟨r, h, a0, b0, a1, b1⟩) (_hat : I64 at_) :
    Calls Try.prog 24 #[.agg #[.bool r, .int .i64 h, .int .i64 a0, .int .i64 b0, .int .i64 a1, .int .i64 b1], .int .i64 at_, .bool up] w fun e w' =>
      e = .returned (.tuple #[.int .i64 (sideOf ⟨r, h, a0, b0, a1, b1⟩ at_ up).1, .int .i64 (sideOf ⟨r, h, a0, b0, a1, b1⟩ at_ up).2]) ∧ Q w w' := by
  obtain ⟨i1, i2, i3, i4, i5⟩ := hI
  simp only at i1 i2 i3 i4 i5
  have c1 := fun w => in_any a0 0 20000 w
  have c2 := fun w => in_any a1 0 20000 w
  have c3 := fun w => in_any b0 0 20000 w
  have c4 := fun w => in_any b1 0 20000 w
  have hno : ¬ (1 ≤ h ∧ inB a0 0 20000 = true ∧ inB a1 0 20000 = true ∧ inB b0 0 20000 = true ∧ inB b1 0 20000 = true) → sideOf ⟨r, h, a0, b0, a1, b1⟩ at_ up = (0, 0) := fun c => if_neg c
  by_cases hh : h < 1
  · have hB : decide (h < 1) = true := decide_eq_true hh
    rw [hno (fun x => by omega)]
    clear hno
    go_enter Try.func24, Try.ntmps24
    go_wp2
    go_ret2
    exact ⟨rfl, (Q.refl w).alloc _ _⟩
  have hB : decide (h < 1) = false := decide_eq_false hh
  have ways1 : inB a0 0 20000 = false ∨ inB a0 0 20000 = true := by cases inB a0 0 20000 <;> simp
  rcases ways1 with q1 | q1
  · rw [hno (fun x => by have y := x.2; simp [q1] at y)]
    rw [q1] at c1
    clear hno
    go_enter Try.func24, Try.ntmps24
    go_wp2_with fail
    refine (c1 _).mono ?_
    rintro e w1 ⟨rfl, rfl⟩
    go_wp2
    go_ret2
    exact ⟨rfl, (Q.refl w).alloc _ _⟩
  rw [q1] at c1
  have ways2 : inB a1 0 20000 = false ∨ inB a1 0 20000 = true := by cases inB a1 0 20000 <;> simp
  rcases ways2 with q2 | q2
  · rw [hno (fun x => by have y := x.2; simp [q2] at y)]
    rw [q2] at c2
    clear hno
    go_enter Try.func24, Try.ntmps24
    go_wp2_with fail
    refine (c1 _).mono ?_
    rintro e w1 ⟨rfl, rfl⟩
    go_wp2_with fail
    refine (c2 _).mono ?_
    rintro e w1 ⟨rfl, rfl⟩
    go_wp2
    go_ret2
    exact ⟨rfl, (Q.refl w).alloc _ _⟩
  rw [q2] at c2
  have ways3 : inB b0 0 20000 = false ∨ inB b0 0 20000 = true := by cases inB b0 0 20000 <;> simp
  rcases ways3 with q3 | q3
  · rw [hno (fun x => by have y := x.2; simp [q3] at y)]
    rw [q3] at c3
    clear hno
    go_enter Try.func24, Try.ntmps24
    go_wp2_with fail
    refine (c1 _).mono ?_
    rintro e w1 ⟨rfl, rfl⟩
    go_wp2_with fail
    refine (c2 _).mono ?_
    rintro e w1 ⟨rfl, rfl⟩
    go_wp2_with fail
    refine (c3 _).mono ?_
    rintro e w1 ⟨rfl, rfl⟩
    go_wp2
    go_ret2
    exact ⟨rfl, (Q.refl w).alloc _ _⟩
  rw [q3] at c3
  have ways4 : inB b1 0 20000 = false ∨ inB b1 0 20000 = true := by cases inB b1 0 20000 <;> simp
  rcases ways4 with q4 | q4
  · rw [hno (fun x => by have y := x.2; simp [q4] at y)]
    rw [q4] at c4
    clear hno
    go_enter Try.func24, Try.ntmps24
    go_wp2_with fail
    refine (c1 _).mono ?_
    rintro e w1 ⟨rfl, rfl⟩
    go_wp2_with fail
    refine (c2 _).mono ?_
    rintro e w1 ⟨rfl, rfl⟩
    go_wp2_with fail
    refine (c3 _).mono ?_
    rintro e w1 ⟨rfl, rfl⟩
    go_wp2_with fail
    refine (c4 _).mono ?_
    rintro e w1 ⟨rfl, rfl⟩
    go_wp2
    go_ret2
    exact ⟨rfl, (Q.refl w).alloc _ _⟩
  rw [q4] at c4
  have e : sideOf ⟨r, h, a0, b0, a1, b1⟩ at_ up = (sideM a0 a1 (min (max at_ 0) h) h up, if r then 0 else sideM b0 b1 (min (max at_ 0) h) h up) := if_pos ⟨by simp only; omega, q1, q2, q3, q4⟩
  rw [e]
  clear e hno
  rw [inB_iff] at q1 q2 q3 q4
  obtain ⟨p, hp⟩ : ∃ p, max at_ 0 = p := ⟨_, rfl⟩
  obtain ⟨q, hq⟩ : ∃ q, min p h = q := ⟨_, rfl⟩
  rw [hp, hq]
  have d1 := fun w => straight_any a0 a1 q h up q1.1 q1.2 q2.1 q2.2 (by omega) (by omega) (by omega) i1 w
  have d2 := fun w => straight_any b0 b1 q h up q3.1 q3.2 q4.1 q4.2 (by omega) (by omega) (by omega) i1 w
  generalize sideM a0 a1 q h up = A at *
  generalize sideM b0 b1 q h up = D at *
  clear q1 q2 q3 q4 i1 i2 i3 i4 i5 _hat hh
  cases r
  · go_enter Try.func24, Try.ntmps24
    go_wp2_with fail
    refine (c1 _).mono ?_
    rintro e w1 ⟨rfl, rfl⟩
    go_wp2_with fail
    refine (c2 _).mono ?_
    rintro e w1 ⟨rfl, rfl⟩
    go_wp2_with fail
    refine (c3 _).mono ?_
    rintro e w1 ⟨rfl, rfl⟩
    go_wp2_with fail
    refine (c4 _).mono ?_
    rintro e w1 ⟨rfl, rfl⟩
    go_wp2_with fail
    have g := Q.refl (w.alloc (.cells #[.bool false, .int .i64 h, .int .i64 a0, .int .i64 b0, .int .i64 a1, .int .i64 b1] 49))
    have g0 := (Q.refl w).alloc #[.bool false, .int .i64 h, .int .i64 a0, .int .i64 b0, .int .i64 a1, .int .i64 b1] 49
    have z0 : (w.alloc (.cells #[.bool false, .int .i64 h, .int .i64 a0, .int .i64 b0, .int .i64 a1, .int .i64 b1] 49)).cell? ⟨w.heap.size, 0, none⟩ = some (.bool false) := by simp [go_sem]
    have z1 : (w.alloc (.cells #[.bool false, .int .i64 h, .int .i64 a0, .int .i64 b0, .int .i64 a1, .int .i64 b1] 49)).cell? ⟨w.heap.size, 1, none⟩ = some (.int .i64 h) := by simp [go_sem]
    have z2 : (w.alloc (.cells #[.bool false, .int .i64 h, .int .i64 a0, .int .i64 b0, .int .i64 a1, .int .i64 b1] 49)).cell? ⟨w.heap.size, 2, none⟩ = some (.int .i64 a0) := by simp [go_sem]
    have z3 : (w.alloc (.cells #[.bool false, .int .i64 h, .int .i64 a0, .int .i64 b0, .int .i64 a1, .int .i64 b1] 49)).cell? ⟨w.heap.size, 3, none⟩ = some (.int .i64 b0) := by simp [go_sem]
    have z4 : (w.alloc (.cells #[.bool false, .int .i64 h, .int .i64 a0, .int .i64 b0, .int .i64 a1, .int .i64 b1] 49)).cell? ⟨w.heap.size, 4, none⟩ = some (.int .i64 a1) := by simp [go_sem]
    have z5 : (w.alloc (.cells #[.bool false, .int .i64 h, .int .i64 a0, .int .i64 b0, .int .i64 a1, .int .i64 b1] 49)).cell? ⟨w.heap.size, 5, none⟩ = some (.int .i64 b1) := by simp [go_sem]
    generalize w.alloc (.cells #[.bool false, .int .i64 h, .int .i64 a0, .int .i64 b0, .int .i64 a1, .int .i64 b1] 49) = WW at *
    obtain ⟨BB, hBB⟩ : ∃ BB, w.heap.size = BB := ⟨_, rfl⟩
    rw [hBB] at z0 z1 z2 z3 z4 z5
    try rw [hBB]
    refine wp_region_noPanic ?_
    refine wp_region_seq (S := fun w' => w'.cell? ⟨BB, 0, none⟩ = some (.bool false) ∧ w'.cell? ⟨BB, 1, none⟩ = some (.int .i64 h) ∧ w'.cell? ⟨BB, 2, none⟩ = some (.int .i64 a0) ∧ w'.cell? ⟨BB, 3, none⟩ = some (.int .i64 b0) ∧ w'.cell? ⟨BB, 4, none⟩ = some (.int .i64 a1) ∧ w'.cell? ⟨BB, 5, none⟩ = some (.int .i64 b1) ∧ Q WW w') [(0, 0), (1, 0), (2, 0), (3, 0), (4, 0), (5, 0), (6, 0), (7, 0), (9, 0), (10, 0), (11, 0), (12, 0), (13, 0), (14, 0), (15, 0), (16, 0), (8, 2), (17, 2), (18, 0), (19, 0)] [0, 1, 0, 4, 0, 0, 32, 0, 218, 0, 512, 0, 2048, 0, 0, 16384, 0, 111872, 131583, 524287] [0, 1, 0, 4, 0, 0, 32, 0, 218, 0, 512, 0, 2048, 0, 0, 16384, 0, 111616, 256, 131072] (by kernel_rfl) (by kernel_rfl) (fun _ _ _ _ _ h => h) ?_ (fun hH => ?_)
    · exact ⟨by simp [go_sem, z0], by simp [go_sem, z1], by simp [go_sem, z2], by simp [go_sem, z3], by simp [go_sem, z4], by simp [go_sem, z5], g.drew⟩
    refine wpSeq_take (d := 42) (v := ?_) rfl rfl (by kernel_rfl) (fun w hS => ?_) ?_
    rotate_left
    · go_simp <;> with_reducible rfl
    dsimp only [List.set_cons_zero, List.set_cons_succ]
    refine wpSeq_take (d := 43) (v := ?_) rfl rfl (by kernel_rfl) (fun w hS => ?_) ?_
    rotate_left
    · go_simp <;> with_reducible rfl
    dsimp only [List.set_cons_zero, List.set_cons_succ]
    refine wpSeq_take (d := 44) (v := ?_) rfl rfl (by kernel_rfl) (fun w hS => ?_) ?_
    rotate_left
    · go_simp <;> with_reducible rfl
    dsimp only [List.set_cons_zero, List.set_cons_succ]
    refine wpSeq_take (d := 45) (v := ?_) rfl rfl (by kernel_rfl) (fun w hS => ?_) ?_
    rotate_left
    · go_simp <;> with_reducible rfl
    dsimp only [List.set_cons_zero, List.set_cons_succ]
    refine wpSeq_take (d := 46) (v := ?_) rfl rfl (by kernel_rfl) (fun w hS => ?_) ?_
    rotate_left
    · go_simp <;> with_reducible rfl
    dsimp only [List.set_cons_zero, List.set_cons_succ]
    refine wpSeq_take (d := 47) (v := ?_) rfl rfl (by kernel_rfl) (fun w hS => ?_) ?_
    rotate_left
    · go_simp <;> with_reducible rfl
    dsimp only [List.set_cons_zero, List.set_cons_succ]
    refine wpSeq_take (d := 48) (v := ?_) rfl rfl (by kernel_rfl) (fun w hS => ?_) ?_
    rotate_left
    · go_simp <;> with_reducible rfl
    dsimp only [List.set_cons_zero, List.set_cons_succ]
    refine wpSeq_take (d := 49) (v := ?_) rfl rfl (by kernel_rfl) (fun w hS => ?_) ?_
    rotate_left
    · go_simp <;> with_reducible rfl
    dsimp only [List.set_cons_zero, List.set_cons_succ]
    refine wpSeq_take (d := 51) (v := ?_) rfl rfl (by kernel_rfl) (fun w hS => ?_) ?_
    rotate_left
    · go_simp <;> with_reducible rfl
    dsimp only [List.set_cons_zero, List.set_cons_succ]
    refine wpSeq_take (d := 52) (v := ?_) rfl rfl (by kernel_rfl) (fun w hS => ?_) ?_
    rotate_left
    · go_simp <;> with_reducible rfl
    dsimp only [List.set_cons_zero, List.set_cons_succ]
    refine wpSeq_take (d := 53) (v := ?_) rfl rfl (by kernel_rfl) (fun w hS => ?_) ?_
    rotate_left
    · go_simp <;> with_reducible rfl
    dsimp only [List.set_cons_zero, List.set_cons_succ]
    refine wpSeq_take (d := 54) (v := ?_) rfl rfl (by kernel_rfl) (fun w hS => ?_) ?_
    rotate_left
    · go_simp <;> with_reducible rfl
    dsimp only [List.set_cons_zero, List.set_cons_succ]
    refine wpSeq_take (d := 55) (v := ?_) rfl rfl (by kernel_rfl) (fun w hS => ?_) ?_
    rotate_left
    · go_simp <;> with_reducible rfl
    dsimp only [List.set_cons_zero, List.set_cons_succ]
    refine wpSeq_take (d := 56) (v := ?_) rfl rfl (by kernel_rfl) (fun w hS => ?_) ?_
    rotate_left
    · go_simp <;> with_reducible rfl
    dsimp only [List.set_cons_zero, List.set_cons_succ]
    refine wpSeq_take (d := 57) (v := ?_) rfl rfl (by kernel_rfl) (fun w hS => ?_) ?_
    rotate_left
    · go_simp <;> with_reducible rfl
    dsimp only [List.set_cons_zero, List.set_cons_succ]
    refine wpSeq_take (d := 58) (v := ?_) rfl rfl (by kernel_rfl) (fun w hS => ?_) ?_
    rotate_left
    · go_simp <;> with_reducible rfl
    dsimp only [List.set_cons_zero, List.set_cons_succ]
    refine wpSeq_call rfl (by kernel_rfl) (fun K hK => ?_)
    go_simp
    (with_reducible refine (d1 _).mono ?_)
    rintro e w' ⟨rfl, hq⟩
    refine hK.out _ _ ?_ (fun hH => ?_)
    · exact ⟨hq.keep hH.1, hq.keep hH.2.1, hq.keep hH.2.2.1, hq.keep hH.2.2.2.1, hq.keep hH.2.2.2.2.1, hq.keep hH.2.2.2.2.2.1, hH.2.2.2.2.2.2.trans hq⟩
    clear hK
    refine wpSeq_call rfl (by kernel_rfl) (fun K hK => ?_)
    go_simp
    (with_reducible refine (d2 _).mono ?_)
    rintro e w' ⟨rfl, hq⟩
    refine hK.out _ _ ?_ (fun hH => ?_)
    · exact ⟨hq.keep hH.1, hq.keep hH.2.1, hq.keep hH.2.2.1, hq.keep hH.2.2.2.1, hq.keep hH.2.2.2.2.1, hq.keep hH.2.2.2.2.2.1, hH.2.2.2.2.2.2.trans hq⟩
    clear hK
    refine wpSeq_take (d := 8) (v := ?_) rfl rfl (by kernel_rfl) (fun w hS => ?_) ?_
    rotate_left
    · go_simp <;> with_reducible rfl
    dsimp only [List.set_cons_zero, List.set_cons_succ]
    refine wpSeq_take (d := 9) (v := ?_) rfl rfl (by kernel_rfl) (fun w hS => ?_) ?_
    rotate_left
    · go_simp <;> with_reducible rfl
    dsimp only [List.set_cons_zero, List.set_cons_succ]
    refine wpSeq_done ?_
    refine NoPanic.normal ?_
    obtain ⟨z0, z1, z2, z3, z4, z5, g1⟩ := hH
    go_wp2
    go_ret2
    exact ⟨by simp, g0.trans g1⟩
  · go_enter Try.func24, Try.ntmps24
    go_wp2_with fail
    refine (c1 _).mono ?_
    rintro e w1 ⟨rfl, rfl⟩
    go_wp2_with fail
    refine (c2 _).mono ?_
    rintro e w1 ⟨rfl, rfl⟩
    go_wp2_with fail
    refine (c3 _).mono ?_
    rintro e w1 ⟨rfl, rfl⟩
    go_wp2_with fail
    refine (c4 _).mono ?_
    rintro e w1 ⟨rfl, rfl⟩
    go_wp2_with fail
    have g := Q.refl (w.alloc (.cells #[.bool true, .int .i64 h, .int .i64 a0, .int .i64 b0, .int .i64 a1, .int .i64 b1] 49))
    have g0 := (Q.refl w).alloc #[.bool true, .int .i64 h, .int .i64 a0, .int .i64 b0, .int .i64 a1, .int .i64 b1] 49
    have z0 : (w.alloc (.cells #[.bool true, .int .i64 h, .int .i64 a0, .int .i64 b0, .int .i64 a1, .int .i64 b1] 49)).cell? ⟨w.heap.size, 0, none⟩ = some (.bool true) := by simp [go_sem]
    have z1 : (w.alloc (.cells #[.bool true, .int .i64 h, .int .i64 a0, .int .i64 b0, .int .i64 a1, .int .i64 b1] 49)).cell? ⟨w.heap.size, 1, none⟩ = some (.int .i64 h) := by simp [go_sem]
    have z2 : (w.alloc (.cells #[.bool true, .int .i64 h, .int .i64 a0, .int .i64 b0, .int .i64 a1, .int .i64 b1] 49)).cell? ⟨w.heap.size, 2, none⟩ = some (.int .i64 a0) := by simp [go_sem]
    have z3 : (w.alloc (.cells #[.bool true, .int .i64 h, .int .i64 a0, .int .i64 b0, .int .i64 a1, .int .i64 b1] 49)).cell? ⟨w.heap.size, 3, none⟩ = some (.int .i64 b0) := by simp [go_sem]
    have z4 : (w.alloc (.cells #[.bool true, .int .i64 h, .int .i64 a0, .int .i64 b0, .int .i64 a1, .int .i64 b1] 49)).cell? ⟨w.heap.size, 4, none⟩ = some (.int .i64 a1) := by simp [go_sem]
    have z5 : (w.alloc (.cells #[.bool true, .int .i64 h, .int .i64 a0, .int .i64 b0, .int .i64 a1, .int .i64 b1] 49)).cell? ⟨w.heap.size, 5, none⟩ = some (.int .i64 b1) := by simp [go_sem]
    generalize w.alloc (.cells #[.bool true, .int .i64 h, .int .i64 a0, .int .i64 b0, .int .i64 a1, .int .i64 b1] 49) = WW at *
    obtain ⟨BB, hBB⟩ : ∃ BB, w.heap.size = BB := ⟨_, rfl⟩
    rw [hBB] at z0 z1 z2 z3 z4 z5
    try rw [hBB]
    refine wp_region_noPanic ?_
    refine wp_region_seq (S := fun w' => w'.cell? ⟨BB, 0, none⟩ = some (.bool true) ∧ w'.cell? ⟨BB, 1, none⟩ = some (.int .i64 h) ∧ w'.cell? ⟨BB, 2, none⟩ = some (.int .i64 a0) ∧ w'.cell? ⟨BB, 3, none⟩ = some (.int .i64 b0) ∧ w'.cell? ⟨BB, 4, none⟩ = some (.int .i64 a1) ∧ w'.cell? ⟨BB, 5, none⟩ = some (.int .i64 b1) ∧ Q WW w') [(0, 0), (1, 0), (2, 0), (3, 0), (4, 0), (5, 0), (6, 0), (7, 0), (9, 0), (10, 0), (11, 0), (12, 0), (13, 0), (14, 0), (15, 0), (16, 0), (8, 2), (17, 2), (18, 0), (19, 0)] [0, 1, 0, 4, 0, 0, 32, 0, 218, 0, 512, 0, 2048, 0, 0, 16384, 0, 111872, 131583, 524287] [0, 1, 0, 4, 0, 0, 32, 0, 218, 0, 512, 0, 2048, 0, 0, 16384, 0, 111616, 256, 131072] (by kernel_rfl) (by kernel_rfl) (fun _ _ _ _ _ h => h) ?_ (fun hH => ?_)
    · exact ⟨by simp [go_sem, z0], by simp [go_sem, z1], by simp [go_sem, z2], by simp [go_sem, z3], by simp [go_sem, z4], by simp [go_sem, z5], g.drew⟩
    refine wpSeq_take (d := 42) (v := ?_) rfl rfl (by kernel_rfl) (fun w hS => ?_) ?_
    rotate_left
    · go_simp <;> with_reducible rfl
    dsimp only [List.set_cons_zero, List.set_cons_succ]
    refine wpSeq_take (d := 43) (v := ?_) rfl rfl (by kernel_rfl) (fun w hS => ?_) ?_
    rotate_left
    · go_simp <;> with_reducible rfl
    dsimp only [List.set_cons_zero, List.set_cons_succ]
    refine wpSeq_take (d := 44) (v := ?_) rfl rfl (by kernel_rfl) (fun w hS => ?_) ?_
    rotate_left
    · go_simp <;> with_reducible rfl
    dsimp only [List.set_cons_zero, List.set_cons_succ]
    refine wpSeq_take (d := 45) (v := ?_) rfl rfl (by kernel_rfl) (fun w hS => ?_) ?_
    rotate_left
    · go_simp <;> with_reducible rfl
    dsimp only [List.set_cons_zero, List.set_cons_succ]
    refine wpSeq_take (d := 46) (v := ?_) rfl rfl (by kernel_rfl) (fun w hS => ?_) ?_
    rotate_left
    · go_simp <;> with_reducible rfl
    dsimp only [List.set_cons_zero, List.set_cons_succ]
    refine wpSeq_take (d := 47) (v := ?_) rfl rfl (by kernel_rfl) (fun w hS => ?_) ?_
    rotate_left
    · go_simp <;> with_reducible rfl
    dsimp only [List.set_cons_zero, List.set_cons_succ]
    refine wpSeq_take (d := 48) (v := ?_) rfl rfl (by kernel_rfl) (fun w hS => ?_) ?_
    rotate_left
    · go_simp <;> with_reducible rfl
    dsimp only [List.set_cons_zero, List.set_cons_succ]
    refine wpSeq_take (d := 49) (v := ?_) rfl rfl (by kernel_rfl) (fun w hS => ?_) ?_
    rotate_left
    · go_simp <;> with_reducible rfl
    dsimp only [List.set_cons_zero, List.set_cons_succ]
    refine wpSeq_take (d := 51) (v := ?_) rfl rfl (by kernel_rfl) (fun w hS => ?_) ?_
    rotate_left
    · go_simp <;> with_reducible rfl
    dsimp only [List.set_cons_zero, List.set_cons_succ]
    refine wpSeq_take (d := 52) (v := ?_) rfl rfl (by kernel_rfl) (fun w hS => ?_) ?_
    rotate_left
    · go_simp <;> with_reducible rfl
    dsimp only [List.set_cons_zero, List.set_cons_succ]
    refine wpSeq_take (d := 53) (v := ?_) rfl rfl (by kernel_rfl) (fun w hS => ?_) ?_
    rotate_left
    · go_simp <;> with_reducible rfl
    dsimp only [List.set_cons_zero, List.set_cons_succ]
    refine wpSeq_take (d := 54) (v := ?_) rfl rfl (by kernel_rfl) (fun w hS => ?_) ?_
    rotate_left
    · go_simp <;> with_reducible rfl
    dsimp only [List.set_cons_zero, List.set_cons_succ]
    refine wpSeq_take (d := 55) (v := ?_) rfl rfl (by kernel_rfl) (fun w hS => ?_) ?_
    rotate_left
    · go_simp <;> with_reducible rfl
    dsimp only [List.set_cons_zero, List.set_cons_succ]
    refine wpSeq_take (d := 56) (v := ?_) rfl rfl (by kernel_rfl) (fun w hS => ?_) ?_
    rotate_left
    · go_simp <;> with_reducible rfl
    dsimp only [List.set_cons_zero, List.set_cons_succ]
    refine wpSeq_take (d := 57) (v := ?_) rfl rfl (by kernel_rfl) (fun w hS => ?_) ?_
    rotate_left
    · go_simp <;> with_reducible rfl
    dsimp only [List.set_cons_zero, List.set_cons_succ]
    refine wpSeq_take (d := 58) (v := ?_) rfl rfl (by kernel_rfl) (fun w hS => ?_) ?_
    rotate_left
    · go_simp <;> with_reducible rfl
    dsimp only [List.set_cons_zero, List.set_cons_succ]
    refine wpSeq_call rfl (by kernel_rfl) (fun K hK => ?_)
    go_simp
    (with_reducible refine (d1 _).mono ?_)
    rintro e w' ⟨rfl, hq⟩
    refine hK.out _ _ ?_ (fun hH => ?_)
    · exact ⟨hq.keep hH.1, hq.keep hH.2.1, hq.keep hH.2.2.1, hq.keep hH.2.2.2.1, hq.keep hH.2.2.2.2.1, hq.keep hH.2.2.2.2.2.1, hH.2.2.2.2.2.2.trans hq⟩
    clear hK
    refine wpSeq_call rfl (by kernel_rfl) (fun K hK => ?_)
    go_simp
    (with_reducible refine (d2 _).mono ?_)
    rintro e w' ⟨rfl, hq⟩
    refine hK.out _ _ ?_ (fun hH => ?_)
    · exact ⟨hq.keep hH.1, hq.keep hH.2.1, hq.keep hH.2.2.1, hq.keep hH.2.2.2.1, hq.keep hH.2.2.2.2.1, hq.keep hH.2.2.2.2.2.1, hH.2.2.2.2.2.2.trans hq⟩
    clear hK
    refine wpSeq_take (d := 8) (v := ?_) rfl rfl (by kernel_rfl) (fun w hS => ?_) ?_
    rotate_left
    · go_simp <;> with_reducible rfl
    dsimp only [List.set_cons_zero, List.set_cons_succ]
    refine wpSeq_take (d := 9) (v := ?_) rfl rfl (by kernel_rfl) (fun w hS => ?_) ?_
    rotate_left
    · go_simp <;> with_reducible rfl
    dsimp only [List.set_cons_zero, List.set_cons_succ]
    refine wpSeq_done ?_
    refine NoPanic.normal ?_
    obtain ⟨z0, z1, z2, z3, z4, z5, g1⟩ := hH
    go_wp2
    go_ret2
    exact ⟨by simp, g0.trans g1⟩
end Go.Proofs.Ytglniapfnhedoaa

namespace Go.Proofs.Ytglniapfnhedoaa
open Go.RowKit
/-- An area of sides. -/
def areaM (r : Bool) (a b : Int) (up : Bool) : Int :=
  if r then (if up then (a * a * 355 + 451) / 452 else a * a * 333 / 424) else a * b
/-- The lower and the upper area of a slice. -/
def lowA (s : Sec) (t : Int) : Int := areaM s.r (min (sideOf s t false).1 (sideOf s (t + 100) false).1) (min (sideOf s t false).2 (sideOf s (t + 100) false).2) false
def highA (s : Sec) (t : Int) : Int := areaM s.r (max (sideOf s t true).1 (sideOf s (t + 100) true).1) (max (sideOf s t true).2 (sideOf s (t + 100) true).2) true
/-- The slices of a section, of a shape: their two bounds. -/
def slOf (s : Sec) : List (Int × Int) := (List.range (s.h / 100).toNat).map fun (j : Nat) => (100 * lowA s (100 * (j : Int)), 100 * highA s (100 * (j : Int)))
def slAll (l : List Sec) : List (Int × Int) := l.flatMap slOf
def lowT (L : List (Int × Int)) (k : Nat) : Int := ((L.take k).map Prod.fst).sum
def highT (L : List (Int × Int)) (k : Nat) : Int := ((L.take k).map Prod.snd).sum
theorem mul_le {a b c d : Int} (h0 : 0 ≤ a) (h1 : a ≤ c) (h2 : 0 ≤ b) (h3 : b ≤ d) : a * b ≤ c * d :=
  Int.le_trans (Int.mul_le_mul_of_nonneg_left h3 h0) (Int.mul_le_mul_of_nonneg_right h1 (by omega))
theorem area_le {r : Bool} {a b c d : Int} (h0 : 0 ≤ a) (h1 : a ≤ c) (h2 : 0 ≤ b) (h3 : b ≤ d) (u v : Bool) (huv : u = true → v = true) : areaM r a b u ≤ areaM r c d v := by
  unfold areaM
  cases r
  · exact mul_le h0 h1 h2 h3
  · have h4 := mul_le h0 h1 h0 h1
    have h5 := Int.mul_nonneg h0 h0
    cases u <;> cases v <;> simp at huv ⊢ <;> omega
theorem area_nonneg {r : Bool} {a b : Int} (h0 : 0 ≤ a) (h2 : 0 ≤ b) (u : Bool) : 0 ≤ areaM r a b u := by
  unfold areaM
  have h4 := Int.mul_nonneg h0 h0
  have h5 := Int.mul_nonneg h0 h2
  cases r
  · exact h5
  · cases u <;> simp <;> omega
theorem area_small {r : Bool} {a b : Int} (h0 : 0 ≤ a) (h1 : a ≤ 20000) (h2 : 0 ≤ b) (h3 : b ≤ 20000) (u : Bool) : areaM r a b u ≤ 400000000 := by
  unfold areaM
  have h4 := mul_le h0 h1 h0 h1
  have h5 := mul_le h0 h1 h2 h3
  cases r
  · simp; omega
  · cases u <;> simp <;> omega
theorem area_pos {r : Bool} {a b : Int} (h0 : 1 ≤ a) (h1 : r = false → 1 ≤ b) : 1 ≤ areaM r a b true := by
  unfold areaM
  have h4 := mul_le (a := 1) (b := 1) (by omega) h0 (by omega) h0
  cases r
  · have := mul_le (a := 1) (b := 1) (by omega) h0 (by omega) (h1 rfl)
    simp; omega
  · simp; omega
/-- Sides of a section that may be, at a height of it. -/
theorem sideOf_in {s : Sec} (h : secOk s = true) (t : Int) (up : Bool) : 0 ≤ (sideOf s t up).1 ∧ (sideOf s t up).1 ≤ 20000 ∧ 0 ≤ (sideOf s t up).2 ∧ (sideOf s t up).2 ≤ 20000 := by
  obtain ⟨h1, h2, h3, h4, h5, h6, h7, h8, h9, h10, _⟩ := secOk_all h
  rw [sideOf_ok h]
  obtain ⟨_, _, f1, f2⟩ := side_fits h3 h4 (by omega) h6 (show 0 ≤ min (max t 0) s.h by omega) (by omega) h1 up
  obtain ⟨_, _, g1, g2⟩ := side_fits h7 h8 h9 h10 (show 0 ≤ min (max t 0) s.h by omega) (by omega) h1 up
  refine ⟨by simp only; omega, by simp only; omega, ?_, ?_⟩
  · cases s.r <;> simp <;> omega
  · cases s.r <;> simp <;> omega
theorem sideOf_ways {s : Sec} (h : secOk s = true) (t : Int) : (sideOf s t false).1 ≤ (sideOf s t true).1 ∧ (sideOf s t false).2 ≤ (sideOf s t true).2 := by
  obtain ⟨h1, h2, h3, h4, h5, h6, h7, h8, h9, h10, _⟩ := secOk_all h
  rw [sideOf_ok h, sideOf_ok h]
  have f := side_ways h3 h4 (by omega) h6 (show 0 ≤ min (max t 0) s.h by omega) (by omega) h1
  have g := side_ways h7 h8 h9 h10 (show 0 ≤ min (max t 0) s.h by omega) (by omega) h1
  refine ⟨f.1, ?_⟩
  cases s.r <;> simp <;> omega
/-- Above its bottom a side that opens is there. -/
theorem side_pos {x0 x1 t h : Int} (a0 : 0 ≤ x0) (b0 : x0 ≤ 20000) (a1 : 1 ≤ x1) (b1 : x1 ≤ 20000) (h0 : 1 ≤ t) (h1 : t ≤ h) : 1 ≤ sideM x0 x1 t h true := by
  obtain ⟨_, e, _, _⟩ := side_fits a0 b0 (show 0 ≤ x1 by omega) b1 (show 0 ≤ t by omega) h1 (by omega) true
  unfold sideM
  rw [e, mq_pos _ _ _ (by omega)]
  have hq : (x1 - x0) * t ≤ mdQ ((x1 - x0) * t) h true * h := by
    unfold mdQ
    simp only [if_true]
    have := Int.ediv_mul_le (-((x1 - x0) * t)) (show h ≠ 0 by omega)
    rw [Int.neg_mul]
    omega
  generalize mdQ ((x1 - x0) * t) h true = q at *
  by_cases c : 1 ≤ x0 + q
  · exact c
  · exfalso
    have h2 : q * h ≤ (-x0) * h := Int.mul_le_mul_of_nonneg_right (by omega) (by omega)
    have h3 : (x1 - x0) * t + x0 * h = x1 * t + x0 * (h - t) := by rw [Int.sub_mul, Int.mul_sub]; omega
    have h4 : 1 * 1 ≤ x1 * t := mul_le (by omega) a1 (by omega) h0
    have h5 : 0 ≤ x0 * (h - t) := Int.mul_nonneg a0 (by omega)
    rw [Int.neg_mul] at h2
    omega
theorem sideOf_pos {s : Sec} (h : secOk s = true) (t : Int) (ht : 1 ≤ t) : 1 ≤ (sideOf s t true).1 ∧ (s.r = false → 1 ≤ (sideOf s t true).2) := by
  obtain ⟨h1, h2, h3, h4, h5, h6, h7, h8, h9, h10, _⟩ := secOk_all h
  rw [sideOf_ok h]
  refine ⟨side_pos h3 h4 h5 h6 (by omega) (by omega), fun hr => ?_⟩
  have hb1 : 1 ≤ s.b1 := by
    unfold secOk at h
    rw [hr] at h
    simp only [Bool.and_eq_true, decide_eq_true_eq, inB_iff] at h
    have := h.2
    simp [inB_iff] at this
    omega
  simp [hr]
  exact side_pos h7 h8 hb1 h10 (by omega) (by omega)
/-- Both bounds of a slice. -/
theorem slice_bounds {s : Sec} (h : secOk s = true) (t : Int) (ht : 0 ≤ t) : 0 ≤ lowA s t ∧ lowA s t ≤ highA s t ∧ 1 ≤ highA s t ∧ highA s t ≤ 400000000 := by
  obtain ⟨a1, a2, a3, a4⟩ := sideOf_in h t false
  obtain ⟨b1, b2, b3, b4⟩ := sideOf_in h (t + 100) false
  obtain ⟨c1, c2, c3, c4⟩ := sideOf_in h t true
  obtain ⟨d1, d2, d3, d4⟩ := sideOf_in h (t + 100) true
  obtain ⟨e1, e2⟩ := sideOf_ways h t
  obtain ⟨f1, f2⟩ := sideOf_pos h (t + 100) (by omega)
  unfold lowA highA
  refine ⟨area_nonneg (by omega) (by omega) _, area_le (by omega) (by omega) (by omega) (by omega) _ _ (by simp), area_pos (by omega) (fun hr => by have := f2 hr; omega), area_small (by omega) (by omega) (by omega) (by omega) _⟩
/-- Bounds of slices as they may be. -/
structure Bnd (x : Int × Int) : Prop where
  a : 0 ≤ x.1
  b : x.1 ≤ x.2
  c : 1 ≤ x.2
  d : x.2 ≤ 40000000000
theorem slOf_bnd {s : Sec} (h : secOk s = true) : ∀ x ∈ slOf s, Bnd x := by
  intro x hx
  unfold slOf at hx
  obtain ⟨j, _, rfl⟩ := List.mem_map.1 hx
  obtain ⟨a, b, c, d⟩ := slice_bounds h (100 * (j : Int)) (by omega)
  exact ⟨by simp only; omega, by simp only; omega, by simp only; omega, by simp only; omega⟩
theorem slAll_bnd {l : List Sec} (h : ∀ s ∈ l, secOk s = true) : ∀ x ∈ slAll l, Bnd x := by
  intro x hx
  obtain ⟨s, hs, hx⟩ := List.mem_flatMap.1 hx
  exact slOf_bnd (h s hs) x hx
theorem lowT_succ (L : List (Int × Int)) (k : Nat) (x : Int × Int) (h : L[k]? = some x) : lowT L (k + 1) = lowT L k + x.1 := by
  unfold lowT
  rw [List.take_add_one, h]
  simp
theorem highT_succ (L : List (Int × Int)) (k : Nat) (x : Int × Int) (h : L[k]? = some x) : highT L (k + 1) = highT L k + x.2 := by
  unfold highT
  rw [List.take_add_one, h]
  simp
/-- The bounds of a table, all that the laws ask. -/
theorem table_bnd {L : List (Int × Int)} (h : ∀ x ∈ L, Bnd x) : ∀ k : Nat, 0 ≤ lowT L k ∧ lowT L k ≤ highT L k ∧ highT L k ≤ 40000000000 * (k : Int)
  | 0 => by simp [lowT, highT]
  | k + 1 => by
    have ih := table_bnd h k
    cases hg : L[k]? with
    | none =>
      have e : L.take (k + 1) = L.take k := by rw [List.take_add_one, hg]; simp
      unfold lowT highT at *
      rw [e]
      omega
    | some x =>
      obtain ⟨a, b, c, d⟩ := h x (List.mem_of_getElem? hg)
      rw [lowT_succ L k x hg, highT_succ L k x hg]
      omega
theorem table_rise {L : List (Int × Int)} (h : ∀ x ∈ L, Bnd x) (k : Nat) (hk : k < L.length) : lowT L k ≤ lowT L (k + 1) ∧ highT L k < highT L (k + 1) := by
  have hg := List.getElem?_eq_getElem hk
  obtain ⟨a, b, c, d⟩ := h _ (List.mem_of_getElem? hg)
  rw [lowT_succ L k _ hg, highT_succ L k _ hg]
  omega
/-- Two pieces one above the other. -/
theorem slAll_append (l m : List Sec) : slAll (l ++ m) = slAll l ++ slAll m := by
  unfold slAll
  rw [List.flatMap_append]
theorem lowT_left (L M : List (Int × Int)) (i : Nat) (h : i ≤ L.length) : lowT (L ++ M) i = lowT L i := by
  unfold lowT
  rw [List.take_append_of_le_length h]
/-- How many slices there are: the height by a slice's. -/
theorem slOf_len (s : Sec) : (slOf s).length = (s.h / 100).toNat := by simp [slOf]
theorem secOk_mod {s : Sec} (h : secOk s = true) : s.h % 100 = 0 := by
  unfold secOk at h
  simp only [Bool.and_eq_true, decide_eq_true_eq] at h
  have h1 := h.1.1.1.1.1
  have h2 := h.1.1.1.2
  rwa [Int.tmod_eq_emod_of_nonneg (by omega)] at h2
theorem slAll_len : ∀ (l : List Sec), (∀ s ∈ l, secOk s = true) → 100 * ((slAll l).length : Int) = hsumI l l.length
  | [], _ => by simp [slAll, hsumI]
  | s :: l, h => by
    have ih := slAll_len l (fun x hx => h x (List.mem_cons_of_mem _ hx))
    have h0 := h s List.mem_cons_self
    have h1 := secOk_h s h0
    have h2 := secOk_mod h0
    have e : hsumI (s :: l) (s :: l).length = s.h + hsumI l l.length := by
      unfold hsumI
      rw [List.take_length, List.take_length, List.foldl_cons]
      have : ∀ (m : List Sec) (a : Int), m.foldl (fun t x => t + x.h) a = a + m.foldl (fun t x => t + x.h) 0 := by
        intro m
        induction m with
        | nil => simp
        | cons y m ih => intro a; rw [List.foldl_cons, List.foldl_cons, ih, ih (0 + y.h)]; omega
      rw [this]; omega
    have e2 : (slAll (s :: l)).length = (s.h / 100).toNat + (slAll l).length := by
      show (slOf s ++ slAll l).length = _
      rw [List.length_append, slOf_len]
    rw [e, e2]
    omega
inductive AllLe : List (Int × Int) → List (Int × Int) → Prop
  | nil : AllLe [] []
  | cons {x y : Int × Int} {L M : List (Int × Int)} (h1 : x.1 ≤ y.1) (h2 : x.2 ≤ y.2) (h : AllLe L M) : AllLe (x :: L) (y :: M)
theorem AllLe.append {L M L' M' : List (Int × Int)} (h : AllLe L M) (h' : AllLe L' M') : AllLe (L ++ L') (M ++ M') := by
  induction h with
  | nil => exact h'
  | cons h1 h2 _ ih => exact .cons h1 h2 ih
theorem AllLe.map {α : Type} (f g : α → Int × Int) (h : ∀ a, (f a).1 ≤ (g a).1 ∧ (f a).2 ≤ (g a).2) : ∀ l : List α, AllLe (l.map f) (l.map g)
  | [] => .nil
  | a :: l => .cons (h a).1 (h a).2 (AllLe.map f g h l)
theorem AllLe.sums {L M : List (Int × Int)} (h : AllLe L M) : ∀ k, lowT L k ≤ lowT M k ∧ highT L k ≤ highT M k := by
  induction h with
  | nil => intro k; simp [lowT, highT]
  | cons h1 h2 _ ih =>
    intro k
    cases k with
    | zero => simp [lowT, highT]
    | succ k =>
      have := ih k
      unfold lowT highT at *
      simp only [List.take_succ_cons, List.map_cons, List.sum_cons]
      omega
end Go.Proofs.Ytglniapfnhedoaa

namespace Go.Proofs.Ytglniapfnhedoaa
open Go.RowKit
theorem r3area_any (r : Bool) (a b : Int) (up : Bool) (h0 : 0 ≤ a) (h1 : a ≤ 20000) (h2 : 0 ≤ b) (h3 : b ≤ 20000) (w : World) :
    Calls Try.prog 25 #[.bool r, .int .i64 a, .int .i64 b, .bool up] w fun e w' => e = .returned (.int .i64 (areaM r a b up)) ∧ w = w' := by
  have hm := mul_le h0 h1 h2 h3
  have hp := Int.mul_nonneg h0 h2
  have hs := mul_le h0 h1 h0 h1
  have hq := Int.mul_nonneg h0 h0
  unfold areaM
  cases r
  · have e1 : IntKind.i64.wrap (a * b) = a * b := wrapI (by omega) (by omega)
    go_enter Try.func25, Try.ntmps25
    go_wp2
    go_ret
    exact ⟨by simp, rfl⟩
  · obtain ⟨A, hA⟩ : ∃ A, a * a = A := ⟨_, rfl⟩
    rw [hA] at hs hq ⊢
    have e0 : IntKind.i64.wrap (a * a) = A := by rw [hA]; exact wrapI (by omega) (by omega)
    cases up
    · have e1 : IntKind.i64.wrap (A * 333) = A * 333 := wrapI (by omega) (by omega)
      have e2 : (A * 333).tdiv 424 = A * 333 / 424 := Int.tdiv_eq_ediv_of_nonneg (by omega)
      have e3 : IntKind.i64.wrap (A * 333 / 424) = A * 333 / 424 := wrapI (by omega) (by omega)
      generalize A * 333 / 424 = X at *
      clear hA hs hq hm hp
      go_enter Try.func25, Try.ntmps25
      go_wp2
      go_ret
      exact ⟨by simp, rfl⟩
    · have e1 : IntKind.i64.wrap (A * 355) = A * 355 := wrapI (by omega) (by omega)
      have e4 : IntKind.i64.wrap (A * 355 + 451) = A * 355 + 451 := wrapI (by omega) (by omega)
      have e2 : (A * 355 + 451).tdiv 452 = (A * 355 + 451) / 452 := Int.tdiv_eq_ediv_of_nonneg (by omega)
      have e3 : IntKind.i64.wrap ((A * 355 + 451) / 452) = (A * 355 + 451) / 452 := wrapI (by omega) (by omega)
      generalize (A * 355 + 451) / 452 = X at *
      clear hA hs hq hm hp
      go_enter Try.func25, Try.ntmps25
      go_wp2
      go_ret
      exact ⟨by simp, rfl⟩
theorem sideOf_any (s : Sec) (t : Int) (up : Bool) : 0 ≤ (sideOf s t up).1 ∧ (sideOf s t up).1 ≤ 20000 ∧ 0 ≤ (sideOf s t up).2 ∧ (sideOf s t up).2 ≤ 20000 := by
  unfold sideOf
  split
  · rename_i h
    obtain ⟨h1, h2, h3, h4, h5⟩ := h
    rw [inB_iff] at h2 h3 h4 h5
    obtain ⟨_, _, f1, f2⟩ := side_fits h2.1 h2.2 h3.1 h3.2 (show 0 ≤ min (max t 0) s.h by omega) (by omega) h1 up
    obtain ⟨_, _, g1, g2⟩ := side_fits h4.1 h4.2 h5.1 h5.2 (show 0 ≤ min (max t 0) s.h by omega) (by omega) h1 up
    refine ⟨by simp only; omega, by simp only; omega, ?_, ?_⟩
    · cases s.r <;> simp <;> omega
    · cases s.r <;> simp <;> omega
  · simp
end Go.Proofs.Ytglniapfnhedoaa

namespace Go.Proofs.Ytglniapfnhedoaa
open Go.RowKit
/-- T holds of a world, and of each that has the same blocks from lo up to hi. -/
structure Held (T : World → Prop) (lo hi : Nat) (w : World) : Prop where
  now : T w
  le : hi ≤ w.heap.size
  any : ∀ w', (∀ i, lo ≤ i → i < hi → w'.heap[i]? = w.heap[i]?) → T w'
theorem Held.on {T : World → Prop} {lo hi : Nat} {w w' : World} (h : Held T lo hi w) (hs : w.heap.size ≤ w'.heap.size) (hb : ∀ i, lo ≤ i → i < hi → w'.heap[i]? = w.heap[i]?) : Held T lo hi w' :=
  ⟨h.any w' hb, Nat.le_trans h.le hs, fun w2 h2 => h.any w2 fun i h3 h4 => (h2 i h3 h4).trans (hb i h3 h4)⟩
theorem Held.keepB {T : World → Prop} {lo hi : Nat} {w w' : World} (h : Held T lo hi w) (q : B w w') : Held T lo hi w' :=
  h.on q.below.size fun i _ h2 => q.below.block i (Nat.lt_of_lt_of_le h2 h.le)
end Go.Proofs.Ytglniapfnhedoaa
