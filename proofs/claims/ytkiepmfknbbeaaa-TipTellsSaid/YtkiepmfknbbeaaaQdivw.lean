/-
  Contracts of the library's product and quotient of 64 and 128 bits, at this translation.
-/
import Derived.Test.YtkiepmfknbbeaaaChecked
import Derived.Test.YtkiepmfknbbeaaaW
import Derived.Test.YtkiepmfknbbeaaaShelf
import Derived.Test.YtkiepmfknbbeaaaQdiv
import Derived.Deep.QuietTactic
import Derived.BigQuiet
import Derived.Outline
import Derived.Lib.Hide
namespace Go.Proofs.Ytkiepmfknbbeaaa
open Go.RowKit

/-- How far a remainder is from 2^32. -/
def lack (y : Value) : Nat := 4294967296 - (intOf y).toNat

theorem mul64_any (x y : Nat) (hx : x < 18446744073709551616) (hy : y < 18446744073709551616) (w : World) :
    Calls Try.prog 74 #[.int .u64 x, .int .u64 y] w fun e w' => e = .returned (.tuple #[.int .u64 ((x * y / 18446744073709551616 : Nat) : Int), .int .u64 ((x * y % 18446744073709551616 : Nat) : Int)]) ∧ w = w' :=
  (Try.bits_Mul64 x y hx hy w).mono fun _ _ h => ⟨h.1, h.2.symm⟩

theorem lz_any (y s : Nat) (h1 : 9223372036854775808 ≤ y * 2 ^ s) (h2 : y * 2 ^ s < 18446744073709551616) (hs : s ≤ 63) (hy : y < 18446744073709551616) (w : World) :
    Calls Try.prog 80 #[.int .u64 y] w fun e w' => e = .returned (.int .i64 s) ∧ w = w' :=
  (Try.bits_LeadingZeros64 y w (by omega) (by omega)).mono fun _ _ h => ⟨by rw [h.1, Int.toNat_natCast, bitLen_of y s h1 h2 hs], h.2.symm⟩


theorem div64_zero (lo y : Nat) (h0 : 0 < y) (h2 : lo < 18446744073709551616) (h3 : y < 18446744073709551616) (w : World) :
    Calls Try.prog 76 #[.int .u64 0, .int .u64 lo, .int .u64 y] w fun e w' => e = .returned (.tuple #[.int .u64 (dq 0 lo y : Int), .int .u64 (dr 0 lo y : Int)]) ∧ Dr w w' := by
  have hw : IntKind.u64.wrap ((lo : Int) / (y : Int)) = ((lo / y : Nat) : Int) := by
    rw [← Int.natCast_ediv]
    exact wrapN _ (Nat.lt_of_le_of_lt (Nat.div_le_self _ _) h2)
  go_enter Try.func76, Try.ntmps76
  go_wp2
  go_quiet (fail)
  go_wp2
  go_ret2
  exact ⟨by rw [dq, dr, Nat.zero_mul, Nat.zero_add, Int.natCast_ediv, Int.natCast_emod]; rfl, _, rfl⟩

set_option maxRecDepth 100000 in
set_option maxHeartbeats 1000000 in
theorem div64_big (hi lo y s : Nat) (hh : 0 < hi) (h0 : hi < y) (h2 : lo < 18446744073709551616) (h3 : y < 18446744073709551616) (h4 : 9223372036854775808 ≤ y * 2 ^ s) (h5 : y * 2 ^ s < 18446744073709551616) (h6 : s ≤ 63) (w : World) :
    Calls Try.prog 76 #[.int .u64 hi, .int .u64 lo, .int .u64 y] w fun e w' => e = .returned (.tuple #[.int .u64 (dq hi lo y : Int), .int .u64 (dr hi lo y : Int)]) ∧ w = w' := by
  obtain ⟨Y, a, b, H, K, U, L, c, d, r1, r2, r3, r4, r5, r6, r7, r8, r9, e1, e2, e3, e4, e5, e6, hU⟩ := div_ahead hi lo y s h6 h0 h2 h5
  have ba : 2147483648 ≤ a ∧ a < 4294967296 ∧ b < 4294967296 ∧ Y < 18446744073709551616 ∧ c < 4294967296 ∧ d < 4294967296 := by
    rw [← e1] at h4 h5
    have : b < 4294967296 := by
      have : (Y : Int) % 4294967296 = b := by
        have := maskN Y h5
        rw [r3] at this; omega
      omega
    omega
  obtain ⟨ba1, ba2, bb, bY, bc, bd⟩ := ba
  have hUab : U < a * 4294967296 + b := by omega
  obtain ⟨p1, t1, g1, s1, s2, s3, D1, G1⟩ := first_guess U a b c ba1 ba2 bb bc hUab
  have lz := fun w => lz_any y s h4 h5 h6 h3 w
  go_enter Try.func76, Try.ntmps76
  have f1 := e2
  have f2 : 0 < Y := by omega
  have E1 := Lib.hid e1
  have E2 := Lib.hid e2
  have E3 := Lib.hid e3
  have E4 := Lib.hid e4
  have E5 := Lib.hid e5
  have E6 := Lib.hid e6
  have F1 := Lib.hid f1
  clear e1 e2 e3 e4 e5 e6 h4 h5 hU f1
  go_wp2_with fail
  refine (lz _).mono ?_
  rintro e w1 ⟨rfl, rfl⟩
  clear lz
  go_wp2
  clear r1 r2 r3 r4 r5 r6 r7 r8 r9 s1 s2 s3
  go_loop [15, 16] (fun x y => ∃ q r : Nat, Dig U a b c q r ∧ r < 4294967296 ∧ x = .int .u64 q ∧ y = .int .u64 r) (fun _ y => lack y)
  case atStart => exact ⟨p1, g1, D1, G1, rfl, rfl⟩
  case round =>
    clear D1 G1
    obtain ⟨q, r, hd, hr, rfl, rfl⟩ := hrel
    rcases dig_ways bb bc hUab hd with ⟨k1, k2, k3, k4, k5, k6⟩ | ⟨k1, k2, k3, k4, k5, k6, k7, k8⟩ | ⟨Q, k1, k2, k3, k4, k5, hQ⟩ | ⟨Q, k1, k2, k3, k4, k5, k6, k7, hQ⟩ | ⟨k1, k2, k3, k4, hQ⟩
    · clear hd
      go_wp2
      go_round
      case rel => exact ⟨q - 1, r + a, k6, k5, by go_num, by go_num⟩
      case measure => unfold lack; simp only [intOf]; omega
    · clear hd
      go_wp2
      go_round
      case rel => exact ⟨q - 1, r + a, k8, k7, by go_num, by go_num⟩
      case measure => unfold lack; simp only [intOf]; omega
    all_goals
      have hQs := dig_small U a b c bc hUab
      rw [← hQ] at hQs
      rw [← F1.out] at hQ
      obtain ⟨M, Z, R, l1, l2, l3, l4, l5, l6⟩ := left_behind U c Y _ bc f2 bY hQ
      have hRab : R < a * 4294967296 + b := by have := F1.out; omega
      obtain ⟨p2, t2, g2, s1, s2, s3, D2, G2⟩ := first_guess R a b d ba1 ba2 bb bd hRab
      have HQ := Lib.hid hQ
      have HR := Lib.hid l6
      clear hQ l6 hd
      go_wp2
      clear l1 l2 l3 l4 s1 s2 s3 k1 k2 k3
      go_loop [18, 16] (fun x y => ∃ q r : Nat, Dig R a b d q r ∧ r < 4294967296 ∧ x = .int .u64 q ∧ y = .int .u64 r) (fun _ y => lack y)
      case atStart => exact ⟨p2, g2, D2, G2, rfl, rfl⟩
      case round =>
        clear D2 G2
        obtain ⟨v, r, hd, hr, rfl, rfl⟩ := hrel
        rcases dig_ways bb bd hRab hd with ⟨m1, m2, m3, m4, m5, m6⟩ | ⟨m1, m2, m3, m4, m5, m6, m7, m8⟩ | ⟨V, m1, m2, m3, m4, m5, hV⟩ | ⟨V, m1, m2, m3, m4, m5, m6, m7, hV⟩ | ⟨m1, m2, m3, m4, hV⟩
        · clear hd
          go_wp2
          go_round
          case rel => exact ⟨v - 1, r + a, m6, m5, by go_num, by go_num⟩
          case measure => unfold lack; simp only [intOf]; omega
        · clear hd
          go_wp2
          go_round
          case rel => exact ⟨v - 1, r + a, m8, m7, by go_num, by go_num⟩
          case measure => unfold lack; simp only [intOf]; omega
        all_goals
          have hVs := dig_small R a b d bd hRab
          rw [← hV] at hVs
          rw [← F1.out] at hV
          obtain ⟨M', Z', E, l1, l2, l3, l4, l5', l6⟩ := left_behind R d Y _ bd f2 bY hV
          have fin := Lib.hid (div_end h6 h0 h2 E1.out E3.out E4.out E5.out E6.out HQ.out HR.out hV l6)
          clear hV l6 hd
          go_wp2
          go_ret2
          rw [← fin.out.1, ← fin.out.2]
          exact ⟨rfl, rfl⟩

theorem div64_any (hi lo y : Nat) (h0 : hi < y) (h2 : lo < 18446744073709551616) (h3 : y < 18446744073709551616) (w : World) :
    Calls Try.prog 76 #[.int .u64 hi, .int .u64 lo, .int .u64 y] w fun e w' => e = .returned (.tuple #[.int .u64 (dq hi lo y : Int), .int .u64 (dr hi lo y : Int)]) ∧ Dr w w' := by
  by_cases hh : hi = 0
  · subst hh
    exact div64_zero lo y h0 h2 h3 w
  · obtain ⟨s, h6, h4, h5⟩ := exists_s y (by omega) h3
    exact (div64_big hi lo y s (by omega) h0 h2 h3 h4 h5 h6 w).mono fun _ _ h => ⟨h.1, 0, by rw [h.2, World.drewN_zero]⟩
end Go.Proofs.Ytkiepmfknbbeaaa
