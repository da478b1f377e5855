/-
  Plain mathematics of a product by a number, made whole downwards or upwards. No program is named here.
-/
import Derived.Test.YtkiepmfknbbeaaaQdiv
namespace Go.Proofs.Ytkiepmfknbbeaaa
open Go.RowKit

/-- x by d (d above nought), made whole downwards, or upwards. -/
def mdQ (x d : Int) (up : Bool) : Int := if up then -((-x) / d) else x / d
/-- a times b by by, made whole. -/
def mq (a b y : Int) (up : Bool) : Int := mdQ (if y < 0 then -(a * b) else a * b) y.natAbs up
/-- What MulDiv answers. -/
def mv (a b y : Int) (up : Bool) : Int := if y = 0 then 0 else qv (mq a b y up)
def me (a b y : Int) (up : Bool) : Int := if y = 0 then 22 else qe (mq a b y up)
/-- An amount with a sign. -/
def sg (neg : Bool) (q : Nat) : Int := if neg then -(q : Int) else q
/-- Is the number below nought? By the signs of three. -/
def nb (a b y : Int) : Bool := (decide (a < 0) != decide (b < 0)) != decide (y < 0)
/-- An amount by a number, made whole away from nought, or towards it. -/
def qu (n d : Nat) (away : Bool) : Nat := n / d + (if away && decide (0 < n % d) then 1 else 0)

theorem sg_fits_pos (q : Nat) : I64 (sg false q) ↔ q ≤ 9223372036854775807 := by unfold I64 sg; simp; omega
theorem sg_fits_neg (q : Nat) : I64 (sg true q) ↔ q ≤ 9223372036854775808 := by unfold I64 sg; simp; omega

theorem neg_div (n d : Nat) (hd : 0 < d) : (-(n : Int)) / (d : Int) = -(qu n d true : Int) := by
  unfold qu
  rw [Int.neg_ediv]
  have hs : (d : Int).sign = 1 := Int.sign_eq_one_of_pos (by omega)
  by_cases hr : 0 < n % d
  · have hnd : ¬ (d : Int) ∣ (n : Int) := by
      rw [Int.natCast_dvd_natCast, Nat.dvd_iff_mod_eq_zero]; omega
    rw [if_neg hnd, hs, if_pos (by simpa using hr)]
    push_cast; omega
  · have hnd : (d : Int) ∣ (n : Int) := by
      rw [Int.natCast_dvd_natCast, Nat.dvd_iff_mod_eq_zero]; omega
    rw [if_pos hnd, if_neg (by simpa using hr)]
    push_cast; omega

theorem mdQ_sg (n d : Nat) (hd : 0 < d) (up neg : Bool) : mdQ (sg neg n) d up = sg neg (qu n d (up != neg)) := by
  have h := neg_div n d hd
  have h0 : (n : Int) / (d : Int) = (qu n d false : Int) := by unfold qu; simp
  cases neg <;> cases up <;> simp [mdQ, sg, h, h0]

theorem sg_mul (a b y : Int) : (if y < 0 then -(a * b) else a * b) = sg (nb a b y) (a.natAbs * b.natAbs) := by
  unfold sg nb
  rw [Int.natCast_mul]
  by_cases ha : a < 0 <;> by_cases hb : b < 0 <;> by_cases hy : y < 0
  all_goals
    first | rw [show (a.natAbs : Int) = -a by omega] | rw [show (a.natAbs : Int) = a by omega]
    first | rw [show (b.natAbs : Int) = -b by omega] | rw [show (b.natAbs : Int) = b by omega]
    simp [ha, hb, hy, Int.neg_mul, Int.mul_neg]

theorem mq_eq (a b y : Int) (up : Bool) (hy : y ≠ 0) : mq a b y up = sg (nb a b y) (qu (a.natAbs * b.natAbs) y.natAbs (up != nb a b y)) := by
  unfold mq
  rw [sg_mul, mdQ_sg _ _ (by omega)]
/-- Too great already ahead of the division. -/
theorem over_early (n d : Nat) (neg away : Bool) (h : d ≤ n / 18446744073709551616) (hd : 0 < d) : ¬ I64 (sg neg (qu n d away)) := by
  have h1 : 18446744073709551616 ≤ n / d := by
    rw [Nat.le_div_iff_mul_le hd]
    have := Nat.div_mul_le_self n 18446744073709551616
    have := Nat.mul_le_mul_right 18446744073709551616 h
    omega
  have h2 : 18446744073709551616 ≤ qu n d away := by unfold qu; omega
  cases neg
  · rw [sg_fits_pos]; omega
  · rw [sg_fits_neg]; omega
theorem quot_small (n d : Nat) (h : n / 18446744073709551616 < d) : n / d < 18446744073709551616 := by
  rw [Nat.div_lt_iff_lt_mul (by omega)]
  rw [Nat.div_lt_iff_lt_mul (by omega)] at h
  omega
theorem abs_lt (a : Int) (h : I64 a) : a.natAbs < 18446744073709551616 ∧ a.natAbs ≤ 9223372036854775808 := by unfold I64 at h; omega
theorem dq_whole (n y : Nat) : dq (n / 18446744073709551616) (n % 18446744073709551616) y = n / y ∧ dr (n / 18446744073709551616) (n % 18446744073709551616) y = n % y := by
  unfold dq dr
  rw [Nat.div_add_mod' n 18446744073709551616]
  exact ⟨rfl, rfl⟩
end Go.Proofs.Ytkiepmfknbbeaaa
