/-
  Layer 1: the walk of MathPowers.
-/
import Derived.Test.YtfopgblhkophpaaL1a
namespace Go.Proofs.Ytfopgblhkophpaa
open Go.RowKit

theorem low_bits (a : Int) (ha : I64 a) : bits .and .i64 a 9223372036854775807 = a % 9223372036854775808 := by
  unfold I64 at ha
  have key : (BitVec.ofInt 64 a &&& BitVec.ofInt 64 9223372036854775807).toNat = (a % 9223372036854775808).toNat := by
    rw [BitVec.toNat_and, show (BitVec.ofInt 64 9223372036854775807).toNat = 2 ^ 63 - 1 from by decide, Nat.and_two_pow_sub_one_eq_mod, BitVec.toNat_ofInt]
    omega
  show IntKind.i64.wrap ((BitVec.ofInt 64 a &&& BitVec.ofInt 64 9223372036854775807).toNat : Nat) = _
  rw [key, IntKind.wrap_i64]
  omega

theorem powers_core (a k : Int) (x : Nat) (hx : x ≤ 9223372036854775807)
    (hs : bits .and .i64 a 9223372036854775807 / 2 ^ (k % 63).toNat = (x : Int)) (hk : 0 ≤ k) (hk2 : k ≤ 255) (w : World) :
    Calls Try.prog 9 #[.int .i64 a, .int .u8 k] w fun e w' => e = .returned (.bool true) ∧ Grown w w' := by
  have c1 := fun w => sqrt_any (x : Int) false (by unfold I64; omega) w
  have c2 := fun w => cbrt_any (x : Int) false (by unfold I64; omega) w
  have c3 := fun w => sqrt_any (-1 - (x : Int)) true (by unfold I64; omega) w
  have e1 : rv 2 (x : Int) false = (rootOf 2 x : Int) ∧ re (x : Int) = 0 := by
    rw [rv, re, if_neg (by omega), if_neg (by omega), Int.toNat_natCast, rootUp, Bool.false_and, if_neg (by decide)]; exact ⟨rfl, rfl⟩
  have e2 : rv 3 (x : Int) false = (rootOf 3 x : Int) := by
    rw [rv, if_neg (by omega), Int.toNat_natCast, rootUp, Bool.false_and, if_neg (by decide)]
  have e3 : rv 2 (-1 - (x : Int)) true = 0 ∧ re (-1 - (x : Int)) = 20 := by
    rw [rv, re, if_pos (by omega), if_pos (by omega)]; exact ⟨rfl, rfl⟩
  rw [e1.1, e1.2] at c1
  rw [e2, e1.2] at c2
  rw [e3.1, e3.2] at c3
  have s2 := rootOf_spec 2 (by omega) x
  have s3 := rootOf_spec 3 (by omega) x
  generalize rootOf 2 x = r at *
  generalize rootOf 3 x = c at *
  clear e1 e2 e3
  have r1 : r ≤ 3037000499 := by
    have := pow_back (k := 2) (a := r) (b := 3037000500) (by omega)
    omega
  have r2 : c ≤ 2097151 := by
    have := pow_back (k := 3) (a := c) (b := 2097152) (by omega)
    omega
  rw [Nat.pow_two, Nat.pow_two] at s2
  rw [Nat.pow_succ, Nat.pow_two, Nat.pow_succ, Nat.pow_two] at s3
  obtain ⟨s21, s22⟩ := s2
  obtain ⟨s31, s32⟩ := s3
  have w64 : ∀ m : Nat, m ≤ 9223372036854775807 → IntKind.i64.wrap (m : Int) = (m : Int) := fun m h => by rw [IntKind.wrap_i64]; omega
  have m1 : r * r ≤ 9223372036854775807 := by omega
  have m2 : c * c ≤ 4398042316801 := Nat.mul_le_mul r2 r2
  have a1 : IntKind.i64.wrap ((r : Int) * (r : Int)) = ((r * r : Nat) : Int) := by rw [← Int.natCast_mul]; exact w64 _ m1
  have a2 : IntKind.i64.wrap ((c : Int) * (c : Int)) = ((c * c : Nat) : Int) := by rw [← Int.natCast_mul]; exact w64 _ (by omega)
  have a3 : IntKind.i64.wrap (((c * c : Nat) : Int) * (c : Int)) = ((c * c * c : Nat) : Int) := by rw [← Int.natCast_mul]; exact w64 _ (by omega)
  have b1 : decide (r * r ≤ x) = true := decide_eq_true s21
  have b2 : decide (c * c * c ≤ x) = true := decide_eq_true s31
  have z1 : decide ((r : Int) < 0) = false := decide_eq_false (by omega)
  have z2 : decide ((c : Int) < 0) = false := decide_eq_false (by omega)
  have z3 : decide ((3037000499 : Int) < (r : Int)) = false := decide_eq_false (by omega)
  have z4 : decide ((2097151 : Int) < (c : Int)) = false := decide_eq_false (by omega)
  have o1 : (decide ((r : Int) < 3037000499) = true ∧ ∃ S : Nat, IntKind.i64.wrap (((r : Int) + 1) * ((r : Int) + 1)) = (S : Int) ∧ decide (S ≤ x) = false) ∨ decide ((r : Int) < 3037000499) = false := by
    by_cases h : r < 3037000499
    · have hm : (r + 1) * (r + 1) ≤ 3037000499 * 3037000499 := Nat.mul_le_mul h h
      refine Or.inl ⟨decide_eq_true (by omega), (r + 1) * (r + 1), ?_, decide_eq_false (by omega)⟩
      rw [show ((r : Int) + 1) = ((r + 1 : Nat) : Int) by omega, ← Int.natCast_mul]
      exact w64 _ (by omega)
    · exact Or.inr (decide_eq_false (by omega))
  have o2 : (decide ((c : Int) < 2097151) = true ∧ ∃ S T : Nat, IntKind.i64.wrap (((c : Int) + 1) * ((c : Int) + 1)) = (S : Int) ∧ IntKind.i64.wrap ((S : Int) * ((c : Int) + 1)) = (T : Int) ∧ decide (T ≤ x) = false) ∨ decide ((c : Int) < 2097151) = false := by
    by_cases h : c < 2097151
    · have hm : (c + 1) * (c + 1) ≤ 2097151 * 2097151 := Nat.mul_le_mul h h
      have hn : (c + 1) * (c + 1) * (c + 1) ≤ 2097151 * 2097151 * 2097151 := Nat.mul_le_mul hm h
      refine Or.inl ⟨decide_eq_true (by omega), (c + 1) * (c + 1), (c + 1) * (c + 1) * (c + 1), ?_, ?_, decide_eq_false (by omega)⟩
      · rw [show ((c : Int) + 1) = ((c + 1 : Nat) : Int) by omega, ← Int.natCast_mul]
        exact w64 _ (by omega)
      · rw [show ((c : Int) + 1) = ((c + 1 : Nat) : Int) by omega, ← Int.natCast_mul]
        exact w64 _ (by omega)
    · exact Or.inr (decide_eq_false (by omega))
  clear s21 s22 s31 s32 m1 m2 w64
  generalize r * r = R at *
  generalize c * c * c = D at *
  generalize c * c = C at *
  rcases o1 with ⟨o1, S, o3, o4⟩ | o1
  all_goals
    rcases o2 with ⟨o2, U, V, o5, o6, o7⟩ | o2
    all_goals
      go_enter Try.func9, Try.ntmps9
      go_wp2_with fail
      refine (known_any _).mono ?_
      rintro e w1 ⟨rfl, h1⟩
      go_wp2_with fail
      refine (c1 _).mono ?_
      rintro e w2 ⟨rfl, rfl⟩
      go_wp2_with fail
      refine (c2 _).mono ?_
      rintro e w2 ⟨rfl, rfl⟩
      go_wp2_with fail
      refine (c3 _).mono ?_
      rintro e w2 ⟨rfl, rfl⟩
      go_wp2
      go_ret
      exact ⟨rfl, h1.q.grown⟩

theorem powers_law (a k : Int) (wa : (Lit.int .i64 a).wf = true) (wk : (Lit.int .u8 k).wf = true) (w : World) :
    Calls Try.prog 9 #[.int .i64 a, .int .u8 k] w fun e w' => e = .returned (.bool true) ∧ Grown w w' := by
  have ia := i64_wf wa
  have hk : 0 ≤ k ∧ k ≤ 255 := by
    simp [Lit.wf, IntKind.min, IntKind.max, IntKind.signed, IntKind.bits] at wk
    omega
  have hl := low_bits a ia
  have h0 : 0 ≤ bits .and .i64 a 9223372036854775807 ∧ bits .and .i64 a 9223372036854775807 ≤ 9223372036854775807 := by rw [hl]; omega
  generalize hY : bits .and .i64 a 9223372036854775807 = Y at *
  obtain ⟨y, rfl⟩ := Int.eq_ofNat_of_zero_le h0.1
  refine powers_core a k (y / 2 ^ (k % 63).toNat) ?_ ?_ hk.1 hk.2 w
  · have := Nat.div_le_self y (2 ^ (k % 63).toNat)
    omega
  · rw [hY]; push_cast; rfl
end Go.Proofs.Ytfopgblhkophpaa
