/-
  Contracts of the document's own products (its sums: XRadd).
-/
import Derived.Test.YtkiepmfknbbeaaaChecked
import Derived.Test.YtkiepmfknbbeaaaW
import Derived.Test.YtkiepmfknbbeaaaQmul
import Derived.Lib.Mul64
import Derived.Outline
namespace Go.Proofs.Ytkiepmfknbbeaaa
open Go.RowKit

theorem amount_any (a : Int) (ha : I64 a) (w : World) :
    Calls Try.prog 83 #[.int .i64 a] w fun e w' => e = .returned (.int .u64 (a.natAbs : Int)) ∧ w = w' := by
  unfold I64 at ha
  obtain ⟨h1, h2⟩ := ha
  by_cases hn : a < 0
  · have e : IntKind.u64.wrap (-IntKind.u64.wrap a) = (a.natAbs : Int) := by rw [wrapU, wrapU]; omega
    go_enter Try.func83, Try.ntmps83
    go_wp2
    go_ret
    exact ⟨rfl, rfl⟩
  · have e : IntKind.u64.wrap a = (a.natAbs : Int) := by rw [wrapU]; omega
    go_enter Try.func83, Try.ntmps83
    go_wp2
    go_ret
    exact ⟨rfl, rfl⟩

/-- The halves of a product. -/
def hi64 (x y : Nat) : Nat := x * y / 18446744073709551616
def lo64 (x y : Nat) : Nat := x * y % 18446744073709551616

theorem low_or (p m : Nat) (hp : p < 4294967296) : bits .or .u64 (p : Int) ((m * 4294967296 % 18446744073709551616 : Nat) : Int) = ((p + m * 4294967296 % 18446744073709551616 : Nat) : Int) := by
  rw [bits_or_u64_nat _ _ (by omega) (Nat.mod_lt _ (by omega)), Nat.or_comm, or_join 32 _ _ (by omega) (by omega)]
  omega

/-- The numbers that the walk meets. -/
theorem times_nums (x y : Nat) (hx : x < 18446744073709551616) (hy : y < 18446744073709551616) :
    ∃ a0 a1 b0 b1 P Z R S P0 P1 Z0 Z1 R0 R1 ML LO : Nat,
      bits .and .u64 (x : Int) 4294967295 = (a0 : Int) ∧ (x : Int) / 4294967296 = (a1 : Int) ∧ bits .and .u64 (y : Int) 4294967295 = (b0 : Int) ∧ (y : Int) / 4294967296 = (b1 : Int) ∧
      IntKind.u64.wrap ((a0 : Int) * (b0 : Int)) = (P : Int) ∧ IntKind.u64.wrap ((a1 : Int) * (b0 : Int)) = (Z : Int) ∧ IntKind.u64.wrap ((a0 : Int) * (b1 : Int)) = (R : Int) ∧ IntKind.u64.wrap ((a1 : Int) * (b1 : Int)) = (S : Int) ∧
      bits .and .u64 (P : Int) 4294967295 = (P0 : Int) ∧ (P : Int) / 4294967296 = (P1 : Int) ∧ bits .and .u64 (Z : Int) 4294967295 = (Z0 : Int) ∧ (Z : Int) / 4294967296 = (Z1 : Int) ∧ bits .and .u64 (R : Int) 4294967295 = (R0 : Int) ∧ (R : Int) / 4294967296 = (R1 : Int) ∧
      (P0 < 4294967296 ∧ P1 < 4294967296 ∧ Z0 < 4294967296 ∧ Z1 < 4294967296 ∧ R0 < 4294967296 ∧ R1 < 4294967296 ∧ S ≤ 18446744065119617025) ∧
      IntKind.u64.wrap (((P1 : Int) + (Z0 : Int) + (R0 : Int)) * 4294967296) = (ML : Int) ∧ bits .or .u64 (P0 : Int) (ML : Int) = (LO : Int) ∧
      IntKind.u64.wrap ((S : Int) + (Z1 : Int) + (R1 : Int) + ((P1 : Int) + (Z0 : Int) + (R0 : Int)) / 4294967296) = (hi64 x y : Int) ∧ LO = lo64 x y := by
  have e : x * y = (x / 4294967296) * (y / 4294967296) * (4294967296 * 4294967296) + ((x / 4294967296) * (y % 4294967296) + (x % 4294967296) * (y / 4294967296)) * 4294967296 + (x % 4294967296) * (y % 4294967296) := by
    rw [← Lib.split_mul, Nat.div_add_mod' x 4294967296, Nat.div_add_mod' y 4294967296]
  have ha := Lib.half_mul_le (a := x / 4294967296) (b := y / 4294967296) (by omega) (by omega)
  have hb := Lib.half_mul_le (a := x / 4294967296) (b := y % 4294967296) (by omega) (by omega)
  have hc := Lib.half_mul_le (a := x % 4294967296) (b := y / 4294967296) (by omega) (by omega)
  have hd := Lib.half_mul_le (a := x % 4294967296) (b := y % 4294967296) (by omega) (by omega)
  have m0 := maskN x hx
  have m1 := maskN y hy
  have d0 : (x : Int) / 4294967296 = ((x / 4294967296 : Nat) : Int) := by omega
  have d1 : (y : Int) / 4294967296 = ((y / 4294967296 : Nat) : Int) := by omega
  unfold hi64 lo64
  rw [e]
  clear e
  generalize x / 4294967296 = a1 at *
  generalize x % 4294967296 = a0 at *
  generalize y / 4294967296 = b1 at *
  generalize y % 4294967296 = b0 at *
  refine ⟨a0, a1, b0, b1, a0 * b0, a1 * b0, a0 * b1, a1 * b1, a0 * b0 % 4294967296, a0 * b0 / 4294967296, a1 * b0 % 4294967296, a1 * b0 / 4294967296, a0 * b1 % 4294967296, a0 * b1 / 4294967296,
    (a0 * b0 / 4294967296 + a1 * b0 % 4294967296 + a0 * b1 % 4294967296) * 4294967296 % 18446744073709551616, a0 * b0 % 4294967296 + (a0 * b0 / 4294967296 + a1 * b0 % 4294967296 + a0 * b1 % 4294967296) * 4294967296 % 18446744073709551616,
    m0, d0, m1, d1, ?_, ?_, ?_, ?_, ?_, ?_, ?_, ?_, ?_, ?_, ?_, ?_, ?_, ?_, ?_⟩
  · rw [← Int.natCast_mul]; exact wrapN _ (by omega)
  · rw [← Int.natCast_mul]; exact wrapN _ (by omega)
  · rw [← Int.natCast_mul]; exact wrapN _ (by omega)
  · rw [← Int.natCast_mul]; exact wrapN _ (by omega)
  all_goals
    generalize a0 * b0 = P at *
    generalize a1 * b0 = Z at *
    generalize a0 * b1 = R at *
    generalize a1 * b1 = S at *
  · exact maskN _ (by omega)
  · omega
  · exact maskN _ (by omega)
  · omega
  · exact maskN _ (by omega)
  · omega
  · omega
  · rw [← wrapM]; congr 1
  · exact low_or _ _ (by omega)
  · rw [wrapU]; omega
  · omega

/-- The document's product of halves. -/
theorem times_any (x y : Nat) (hx : x < 18446744073709551616) (hy : y < 18446744073709551616) (w : World) :
    Calls Try.prog 82 #[.int .u64 x, .int .u64 y] w fun e w' => e = .returned (.agg #[.int .u64 (hi64 x y), .int .u64 (lo64 x y)]) ∧ Q w w' := by
  obtain ⟨a0, a1, b0, b1, P, Z, R, S, P0, P1, Z0, Z1, R0, R1, ML, LO, e1, e2, e3, e4, e5, e6, e7, e8, e9, e10, e11, e12, e13, e14, ⟨u1, u2, u3, u4, u5, u6, u7⟩, e15, e16, e17, e18⟩ := times_nums x y hx hy
  subst e18
  go_enter Try.func82, Try.ntmps82
  go_wp2
  refine bodyPost_ret (v := .agg #[.int .u64 (hi64 x y), .int .u64 (lo64 x y)]) (by simp [results, Try.results82, go_sem]) rfl ⟨rfl, ?_⟩
  exact (Q.refl w).alloc _ _

/-- Is an amount of halves, with a sign, a number of 64 bits? -/
theorem long_fits (hi lo : Nat) (neg : Bool) (hlo : lo < 18446744073709551616) : I64 (sg neg (hi * 18446744073709551616 + lo)) ↔ (hi = 0 ∧ (lo < 9223372036854775808 ∨ (lo = 9223372036854775808 ∧ neg = true))) := by
  cases neg
  · rw [sg_fits_pos]; simp; omega
  · rw [sg_fits_neg]; simp; omega

theorem rsigned_any (hi lo : Nat) (neg : Bool) (hlo : lo < 18446744073709551616) (w : World) :
    Calls Try.prog 85 #[.agg #[.int .u64 hi, .int .u64 lo], .bool neg] w fun e w' => e = .returned (.tuple #[.int .i64 (qv (sg neg (hi * 18446744073709551616 + lo))), .bool (decide (I64 (sg neg (hi * 18446744073709551616 + lo))))]) ∧ Q w w' := by
  have hf := long_fits hi lo neg hlo
  by_cases h : I64 (sg neg (hi * 18446744073709551616 + lo))
  · rw [qv_yes h, decide_eq_true h]
    obtain ⟨rfl, h'⟩ := hf.1 h
    rw [Nat.zero_mul, Nat.zero_add]
    have b1 : decide ((9223372036854775808 : Int) < (lo : Int)) = false := decide_eq_false (by omega)
    clear hf h
    cases neg
    · have b2 : ((lo : Int) == 9223372036854775808) = false := by rw [beq_eq_false_iff_ne]; simp at h'; omega
      have e : IntKind.i64.wrap (lo : Int) = sg false lo := by rw [IntKind.wrap_i64]; unfold sg; simp at h' ⊢; omega
      clear h'
      go_enter Try.func85, Try.ntmps85
      go_wp2
      go_ret2
      exact ⟨rfl, (Q.refl w).alloc _ _⟩
    · have e : IntKind.i64.wrap (IntKind.u64.wrap (-(lo : Int))) = sg true lo := by rw [IntKind.wrap_i64, wrapU]; unfold sg; simp at h' ⊢; omega
      have b2 : ((lo : Int) == 9223372036854775808) = true ∨ ((lo : Int) == 9223372036854775808) = false := by cases (lo : Int) == 9223372036854775808 <;> simp
      clear h'
      rcases b2 with b2 | b2
      all_goals
        go_enter Try.func85, Try.ntmps85
        go_wp2
        go_ret2
        exact ⟨rfl, (Q.refl w).alloc _ _⟩
  · rw [qv_no h, decide_eq_false h]
    have h' : ¬ (hi = 0 ∧ (lo < 9223372036854775808 ∨ (lo = 9223372036854775808 ∧ neg = true))) := fun c => h (hf.2 c)
    clear hf h
    by_cases h0 : hi = 0
    · subst h0
      by_cases h1 : 9223372036854775808 < lo
      · have b1 : decide ((9223372036854775808 : Int) < (lo : Int)) = true := decide_eq_true (by omega)
        clear h' h1
        go_enter Try.func85, Try.ntmps85
        go_wp2
        go_ret2
        exact ⟨rfl, (Q.refl w).alloc _ _⟩
      · have h2 : lo = 9223372036854775808 := by
          by_cases c : lo < 9223372036854775808
          · exact absurd ⟨rfl, Or.inl c⟩ h'
          · omega
        have h3 : neg = false := by
          cases neg
          · rfl
          · exact absurd ⟨rfl, Or.inr ⟨h2, rfl⟩⟩ h'
        have b1 : decide ((9223372036854775808 : Int) < (lo : Int)) = false := decide_eq_false (by omega)
        have b2 : ((lo : Int) == 9223372036854775808) = true := by rw [beq_iff_eq]; omega
        subst h3
        clear h' h1 h2
        go_enter Try.func85, Try.ntmps85
        go_wp2
        go_ret2
        exact ⟨rfl, (Q.refl w).alloc _ _⟩
    · have b0 : ((hi : Int) != 0) = true := by simpa using h0
      clear h' h0
      go_enter Try.func85, Try.ntmps85
      go_wp2
      go_ret2
      exact ⟨rfl, (Q.refl w).alloc _ _⟩

theorem told_any (v : Int) (c : Prop) [Decidable c] (w : World) :
    Calls Try.prog 84 #[.int .i64 v, .bool (decide c)] w fun e w' => e = .returned (.tuple #[.int .i64 (if c then v else 0), .int .i64 (if c then 0 else 21)]) ∧ w = w' := by
  by_cases h : c
  · rw [decide_eq_true h, if_pos h, if_pos h]
    clear h
    go_enter Try.func84, Try.ntmps84
    go_wp2
    go_ret2
    exact ⟨rfl, rfl⟩
  · rw [decide_eq_false h, if_neg h, if_neg h]
    clear h
    go_enter Try.func84, Try.ntmps84
    go_wp2
    go_ret2
    exact ⟨rfl, rfl⟩
/-- What 'told' says of a number that 'signed' gave. -/
theorem told_qv (v : Int) (w : World) :
    Calls Try.prog 84 #[.int .i64 (qv v), .bool (decide (I64 v))] w fun e w' => e = .returned (.tuple #[.int .i64 (qv v), .int .i64 (qe v)]) ∧ w = w' := by
  refine (told_any (qv v) (I64 v) w).mono fun e w' h => ⟨?_, h.2⟩
  rw [h.1]
  by_cases c : I64 v
  · rw [if_pos c, if_pos c, qe_yes c]
  · rw [if_neg c, if_neg c, qv_no c, qe_no c]

theorem halves (x y : Nat) : hi64 x y * 18446744073709551616 + lo64 x y = x * y := Nat.div_add_mod' _ _
theorem lo64_lt (x y : Nat) : lo64 x y < 18446744073709551616 := Nat.mod_lt _ (by omega)
end Go.Proofs.Ytkiepmfknbbeaaa
