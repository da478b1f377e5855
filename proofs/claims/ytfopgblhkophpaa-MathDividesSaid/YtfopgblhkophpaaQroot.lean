/-
  Plain mathematics of roots, found bit by bit. No program is named here.
-/
import Derived.Test.YtfopgblhkophpaaQm
namespace Go.Proofs.Ytfopgblhkophpaa
open Go.RowKit

/-- The greatest whole number whose k-th power isn't above a. -/
def rootOf (k : Nat) : Nat → Nat
  | 0 => 0
  | a + 1 => if (rootOf k a + 1) ^ k ≤ a + 1 then rootOf k a + 1 else rootOf k a
/-- Made whole upwards, or downwards. -/
def rootUp (k a : Nat) (up : Bool) : Nat := if (up && decide (rootOf k a ^ k < a)) = true then rootOf k a + 1 else rootOf k a
def rv (k : Nat) (a : Int) (up : Bool) : Int := if a < 0 then 0 else (rootUp k a.toNat up : Int)
def re (a : Int) : Int := if a < 0 then 20 else 0

theorem pow_lt {a b k : Nat} (hk : 0 < k) (h : a < b) : a ^ k < b ^ k := Nat.pow_lt_pow_left h (by omega)
theorem pow_le {a b k : Nat} (h : a ≤ b) : a ^ k ≤ b ^ k := Nat.pow_le_pow_left h k
theorem pow_back {a b k : Nat} (h : a ^ k < b ^ k) : a < b := by
  by_cases c : a < b
  · exact c
  · have := pow_le (k := k) (Nat.le_of_not_lt c)
    omega

theorem rootOf_spec (k : Nat) (hk : 0 < k) : ∀ a, rootOf k a ^ k ≤ a ∧ a < (rootOf k a + 1) ^ k
  | 0 => by
    unfold rootOf
    rw [Nat.zero_pow hk, Nat.zero_add, Nat.one_pow]; omega
  | a + 1 => by
    have ⟨h1, h2⟩ := rootOf_spec k hk a
    unfold rootOf
    split
    · rename_i h
      have := pow_lt hk (show rootOf k a + 1 < rootOf k a + 1 + 1 by omega)
      exact ⟨h, by omega⟩
    · rename_i h
      exact ⟨by omega, by omega⟩

theorem rootOf_eq {k a r : Nat} (hk : 0 < k) (h1 : r ^ k ≤ a) (h2 : a < (r + 1) ^ k) : r = rootOf k a := by
  have ⟨g1, g2⟩ := rootOf_spec k hk a
  have x := pow_back (k := k) (show r ^ k < (rootOf k a + 1) ^ k by omega)
  have y := pow_back (k := k) (show rootOf k a ^ k < (r + 1) ^ k by omega)
  omega

/-- The search's state with n bits to go. -/
structure Seek (k a n f : Nat) : Prop where
  at_ : 2 ^ n ∣ f
  lo : f ^ k ≤ a
  hi : a < (f + 2 ^ n) ^ k

theorem or_bit {n f : Nat} (h : 2 ^ (n + 1) ∣ f) : f ||| 2 ^ n = f + 2 ^ n := by
  obtain ⟨m, rfl⟩ := h
  rw [Nat.mul_comm, ← Nat.shiftLeft_eq, Nat.shiftLeft_add_eq_or_of_lt (Nat.pow_lt_pow_right (by omega) (by omega))]

theorem Seek.yes {k a n f : Nat} (s : Seek k a (n + 1) f) (h : (f + 2 ^ n) ^ k ≤ a) : Seek k a n (f + 2 ^ n) :=
  ⟨Nat.dvd_add (Nat.dvd_trans (Nat.pow_dvd_pow 2 (by omega)) s.at_) (Nat.dvd_refl _), h, by have := s.hi; rw [Nat.pow_succ] at this; rwa [Nat.add_assoc, ← Nat.mul_two]⟩
theorem Seek.no {k a n f : Nat} (s : Seek k a (n + 1) f) (h : ¬ (f + 2 ^ n) ^ k ≤ a) : Seek k a n f :=
  ⟨Nat.dvd_trans (Nat.pow_dvd_pow 2 (by omega)) s.at_, s.lo, by omega⟩
theorem Seek.done {k a f : Nat} (hk : 0 < k) (s : Seek k a 0 f) : f = rootOf k a := rootOf_eq hk s.lo (by have := s.hi; simpa using this)
theorem Seek.first (k a n : Nat) (hk : 0 < k) (h : a < (2 ^ n) ^ k) : Seek k a n 0 := ⟨Nat.dvd_zero _, by rw [Nat.zero_pow hk]; omega, by rwa [Nat.zero_add]⟩
/-- What is found, and one bit more, stays below the search's end. -/
theorem Seek.below {k a n f W : Nat} (s : Seek k a n f) (hn : n ≤ W) (ha : a < (2 ^ W) ^ k) : f + 2 ^ n ≤ 2 ^ W := by
  have h1 := pow_back (k := k) (Nat.lt_of_le_of_lt s.lo ha)
  obtain ⟨m, hm⟩ := s.at_
  obtain ⟨d, rfl⟩ : ∃ d, W = n + d := ⟨W - n, by omega⟩
  rw [Nat.pow_add] at *
  rw [hm] at h1 ⊢
  have h2 := Nat.lt_of_mul_lt_mul_left h1
  have := Nat.mul_le_mul_left (2 ^ n) (Nat.succ_le_of_lt h2)
  rw [Nat.mul_succ] at this
  exact this
/-- A power, by a name of its own. -/
def pw (b k : Nat) : Nat := b ^ k
theorem pw_succ (b k : Nat) : (pw b k : Int) * (b : Int) = (pw b (k + 1) : Int) := by unfold pw; rw [Nat.pow_succ]; push_cast; rfl
theorem pow_part (b k i : Nat) (h : b ^ k < 18446744073709551616) (hi : i < k) : pw b (i + 1) < 18446744073709551616 := by
  unfold pw
  by_cases hb : b = 0
  · subst hb; rw [Nat.zero_pow (by omega)]; omega
  · exact Nat.lt_of_le_of_lt (Nat.pow_le_pow_right (by omega) hi) h
/-- The bit that is tried with n to go. -/
def hb (n : Nat) : Nat := 2 ^ n / 2
theorem hb_zero : (hb 0 : Int) = 0 := rfl
theorem hb_succ (n : Nat) : hb (n + 1) = 2 ^ n := by unfold hb; rw [Nat.pow_succ]; omega
theorem hb_half (n : Nat) : (hb (n + 1) : Int) / 2 = (hb n : Int) := by
  rw [hb_succ]; unfold hb; push_cast; rfl
theorem wrap_nat (t : Nat) (h : t < 18446744073709551616) : IntKind.u64.wrap (t : Int) = (t : Int) := by rw [IntKind.wrap_u64]; omega
theorem hb_first (W : Nat) (h : 1 ≤ W) (h2 : W ≤ 62) : IntKind.u64.wrap ((2 : Int) ^ (W - 1)) = (hb W : Int) := by
  obtain ⟨m, rfl⟩ : ∃ m, W = m + 1 := ⟨W - 1, by omega⟩
  rw [hb_succ]
  have : 2 ^ m ≤ 2 ^ 61 := Nat.pow_le_pow_right (by omega) (by omega)
  rw [show m + 1 - 1 = m by omega, show ((2 : Int) ^ m) = ((2 ^ m : Nat) : Int) by push_cast; rfl]
  exact wrap_nat _ (by omega)
/-- A round with a bit to try: what the walk needs of it. -/
theorem seek_round {k a m f W : Nat} (s : Seek k a (m + 1) f) (hm : m + 1 ≤ W) (hW : W ≤ 62) (h1 : a < (2 ^ W) ^ k) (h2 : (2 ^ W - 1) ^ k < 18446744073709551616) :
    ∃ T G : Nat, hb (m + 1) = T ∧ 0 < T ∧ bits .or .u64 (f : Int) (T : Int) = (G : Int) ∧ (T : Int) / 2 = (hb m : Int) ∧ G ^ k < 18446744073709551616 ∧
      ((decide (pw G k ≤ a) = true ∧ Seek k a m G) ∨ (decide (pw G k ≤ a) = false ∧ Seek k a m f)) := by
  have hb' := s.below hm h1
  have hp := Nat.two_pow_pos m
  have hq : 2 ^ (m + 1) = 2 ^ m * 2 := Nat.pow_succ ..
  have hw : 2 ^ W ≤ 2 ^ 62 := Nat.pow_le_pow_right (by omega) (by omega)
  refine ⟨2 ^ m, f + 2 ^ m, hb_succ m, hp, ?_, ?_, ?_, ?_⟩
  · rw [bits_or_u64_nat _ _ (by omega) (by omega), or_bit s.at_]
  · unfold hb; push_cast; rfl
  · exact Nat.lt_of_le_of_lt (pow_le (by omega)) h2
  · by_cases h : (f + 2 ^ m) ^ k ≤ a
    · exact Or.inl ⟨decide_eq_true h, s.yes h⟩
    · exact Or.inr ⟨decide_eq_false h, s.no h⟩
theorem root_small {k a W : Nat} (hk : 0 < k) (hW : W ≤ 62) (h1 : a < (2 ^ W) ^ k) : rootOf k a < 4611686018427387904 := by
  have h := pow_back (k := k) (Nat.lt_of_le_of_lt (rootOf_spec k hk a).1 h1)
  have hw : 2 ^ W ≤ 2 ^ 62 := Nat.pow_le_pow_right (by omega) (by omega)
  omega
end Go.Proofs.Ytfopgblhkophpaa
