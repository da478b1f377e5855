/-
  Contracts of layer 1's roots.
-/
import Derived.Test.YtfopgblhkophpaaChecked
import Derived.Test.YtfopgblhkophpaaQroot
import Derived.Outline
import Derived.Lib.Hide
import Derived.LoopTactic
import Derived.BigQuiet
import Derived.Deep.QuietTactic
namespace Go.Proofs.Ytfopgblhkophpaa
open Go.RowKit

theorem power_any (b k : Nat) (hk : k ≤ 9) (h : b ^ k < 18446744073709551616) (w : World) :
    Calls Try.prog 38 #[.int .u64 b, .int .i64 k] w fun e w' => e = .returned (.int .u64 (pw b k : Int)) ∧ w = w' := by
  go_enter Try.func38, Try.ntmps38
  go_wp2
  go_loop [5, 7] (fun p i => ∃ n : Nat, n ≤ k ∧ p = .int .u64 (pw b n : Int) ∧ i = .int .i64 n) (fun _ i => k - (intOf i).toNat)
  case atStart => exact ⟨0, Nat.zero_le _, by unfold pw; rw [Nat.pow_zero]; rfl, rfl⟩
  case round =>
    obtain ⟨n, hn, rfl, rfl⟩ := hrel
    by_cases hl : n < k
    · have hp := pow_part b k n h hl
      have e := pw_succ b n
      obtain ⟨X, hX⟩ : ∃ X, X = pw b (n + 1) := ⟨_, rfl⟩
      rw [← hX] at e hp
      have HX := Lib.hid hX
      clear hX
      go_wp2
      go_round
      case rel => exact ⟨n + 1, hl, by rw [HX.out], by go_num⟩
      case measure => simp [intOf]; omega
    · obtain rfl : n = k := by omega
      go_wp2
      go_ret
      exact ⟨rfl, rfl⟩

theorem root_neg (a : Int) (k W : Int) (up : Bool) (hn : a < 0) (w : World) :
    Calls Try.prog 36 #[.int .i64 a, .int .i64 k, .int .i64 W, .bool up] w fun e w' => e = .returned (.tuple #[.int .i64 0, .int .i64 20]) ∧ w = w' := by
  go_enter Try.func36, Try.ntmps36
  go_wp2
  go_ret2
  exact ⟨rfl, rfl⟩

theorem root_any (a k W : Nat) (up : Bool) (ha : a ≤ 9223372036854775807) (hk : 0 < k) (hk9 : k ≤ 9) (hW : 1 ≤ W) (hW2 : W ≤ 62) (h1 : a < (2 ^ W) ^ k) (h2 : (2 ^ W - 1) ^ k < 18446744073709551616) (w : World) :
    Calls Try.prog 36 #[.int .i64 a, .int .i64 k, .int .i64 W, .bool up] w fun e w' => e = .returned (.tuple #[.int .i64 (rootUp k a up : Int), .int .i64 0]) ∧ w = w' := by
  have e1 : IntKind.u64.wrap (a : Int) = (a : Int) := by rw [IntKind.wrap_u64]; omega
  have e2 := hb_first W hW hW2
  have S0 := Seek.first k a W hk h1
  have hsm := root_small hk hW2 h1
  have H1 := Lib.hid h1
  have H2 := Lib.hid h2
  have H3 := Lib.hid ha
  clear h1 h2 ha
  go_enter Try.func36, Try.ntmps36
  go_wp2
  clear e1 e2
  go_loop [11, 12] (fun x y => ∃ n f : Nat, n ≤ W ∧ Seek k a n f ∧ x = .int .u64 f ∧ y = .int .u64 (hb n : Int)) (fun _ y => (intOf y).toNat)
  case atStart => exact ⟨W, 0, Nat.le_refl _, S0, rfl, rfl⟩
  case round =>
    clear S0
    obtain ⟨n, f, hn, hs, rfl, rfl⟩ := hrel
    cases n with
    | zero =>
      obtain rfl := hs.done hk
      have hz := hb_zero
      have hr := (rootOf_spec k hk a).1
      have hup : rootUp k a up = if (up && decide (rootOf k a ^ k < a)) = true then rootOf k a + 1 else rootOf k a := rfl
      obtain ⟨F, hF⟩ : ∃ F, F = rootOf k a := ⟨_, rfl⟩
      rw [← hF] at hsm hr hup ⊢
      have hpF : F ^ k < 18446744073709551616 := by have := H3.out; omega
      have hsm1 : (F : Int) < 4611686018427387904 := by omega
      cases up
      · have HU := Lib.hid hup
        clear hup hF hs hr
        go_wp2
        go_ret2
        rw [HU.out]
        exact ⟨rfl, rfl⟩
      · by_cases hc : pw F k < a
        · have hB : decide (pw F k < a) = true := decide_eq_true hc
          have HU := Lib.hid (hup.trans (if_pos (by simp only [Bool.true_and]; exact decide_eq_true hc)))
          clear hup hF hs hc hr
          go_wp2_with fail
          refine (power_any F k hk9 hpF _).mono ?_
          rintro e w1 ⟨rfl, rfl⟩
          go_wp2
          go_ret2
          rw [HU.out]
          exact ⟨rfl, rfl⟩
        · have hB : decide (pw F k < a) = false := decide_eq_false hc
          have HU := Lib.hid (hup.trans (if_neg (by simp only [Bool.true_and]; exact fun x => hc (of_decide_eq_true x))))
          clear hup hF hs hc hr
          go_wp2_with fail
          refine (power_any F k hk9 hpF _).mono ?_
          rintro e w1 ⟨rfl, rfl⟩
          go_wp2
          go_ret2
          rw [HU.out]
          exact ⟨rfl, rfl⟩
    | succ m =>
      obtain ⟨T, G, t1, t2, t3, t4, t5, ways⟩ := seek_round hs hn hW2 H1.out H2.out
      have cP := fun w => power_any G k hk9 t5 w
      rw [t1]
      clear t1 hs hsm
      rcases ways with ⟨t6, hs'⟩ | ⟨t6, hs'⟩
      all_goals
        go_wp2_with fail
        refine (cP _).mono ?_
        rintro e w1 ⟨rfl, rfl⟩
        go_wp2
        go_round
        case rel => exact ⟨m, _, by omega, hs', rfl, rfl⟩
        case measure => simp [intOf]; omega

theorem sqrt_any (a : Int) (up : Bool) (ha : I64 a) (w : World) :
    Calls Try.prog 21 #[.int .i64 a, .bool up] w fun e w' => e = .returned (.tuple #[.int .i64 (rv 2 a up), .int .i64 (re a)]) ∧ w = w' := by
  unfold I64 at ha
  by_cases hn : a < 0
  · rw [rv, re, if_pos hn, if_pos hn]
    have c := fun w => root_neg a 2 32 up hn w
    go_enter Try.func21, Try.ntmps21
    go_wp2_with fail
    refine (c _).mono ?_
    rintro e w1 ⟨rfl, rfl⟩
    go_wp2
    go_ret2
    exact ⟨rfl, rfl⟩
  · rw [rv, re, if_neg hn, if_neg hn]
    obtain ⟨n, rfl⟩ := Int.eq_ofNat_of_zero_le (show 0 ≤ a by omega)
    have c := fun w => root_any n 2 32 up (by omega) (by omega) (by omega) (by omega) (by omega) (by omega) (by omega) w
    rw [Int.toNat_natCast]
    go_enter Try.func21, Try.ntmps21
    go_wp2_with fail
    refine (c _).mono ?_
    rintro e w1 ⟨rfl, rfl⟩
    go_wp2
    go_ret2
    exact ⟨rfl, rfl⟩

theorem cbrt_any (a : Int) (up : Bool) (ha : I64 a) (w : World) :
    Calls Try.prog 23 #[.int .i64 a, .bool up] w fun e w' => e = .returned (.tuple #[.int .i64 (rv 3 a up), .int .i64 (re a)]) ∧ w = w' := by
  unfold I64 at ha
  by_cases hn : a < 0
  · rw [rv, re, if_pos hn, if_pos hn]
    have c := fun w => root_neg a 3 21 up hn w
    go_enter Try.func23, Try.ntmps23
    go_wp2_with fail
    refine (c _).mono ?_
    rintro e w1 ⟨rfl, rfl⟩
    go_wp2
    go_ret2
    exact ⟨rfl, rfl⟩
  · rw [rv, re, if_neg hn, if_neg hn]
    obtain ⟨n, rfl⟩ := Int.eq_ofNat_of_zero_le (show 0 ≤ a by omega)
    have c := fun w => root_any n 3 21 up (by omega) (by omega) (by omega) (by omega) (by omega) (by omega) (by omega) w
    rw [Int.toNat_natCast]
    go_enter Try.func23, Try.ntmps23
    go_wp2_with fail
    refine (c _).mono ?_
    rintro e w1 ⟨rfl, rfl⟩
    go_wp2
    go_ret2
    exact ⟨rfl, rfl⟩
end Go.Proofs.Ytfopgblhkophpaa
