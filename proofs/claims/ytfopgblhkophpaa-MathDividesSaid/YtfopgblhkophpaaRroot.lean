/-
  Contracts of the document's own roots, bit by bit.
-/
import Derived.Test.YtfopgblhkophpaaChecked
import Derived.Test.YtfopgblhkophpaaW
import Derived.Test.YtfopgblhkophpaaQroot
namespace Go.Proofs.Ytfopgblhkophpaa
open Go.RowKit

theorem or_i64_nat (x y : Nat) (hx : x < 9223372036854775808) (hy : y < 9223372036854775808) : bits .or .i64 (x : Int) (y : Int) = ((x ||| y : Nat) : Int) := by
  have h : x ||| y < 2 ^ 63 := Nat.or_lt_two_pow (by omega) (by omega)
  have h1 : (BitVec.ofInt 64 (x : Int)).toNat = x := by rw [BitVec.ofInt_natCast, BitVec.toNat_ofNat]; exact Nat.mod_eq_of_lt (by omega)
  have h2 : (BitVec.ofInt 64 (y : Int)).toNat = y := by rw [BitVec.ofInt_natCast, BitVec.toNat_ofNat]; exact Nat.mod_eq_of_lt (by omega)
  show IntKind.i64.wrap ((BitVec.ofInt 64 (x : Int) ||| BitVec.ofInt 64 (y : Int)).toNat : Int) = _
  rw [BitVec.toNat_or, h1, h2, IntKind.wrap_i64]
  omega

theorem wrap64_nat (m : Nat) (h : m ≤ 9223372036854775807) : IntKind.i64.wrap (m : Int) = (m : Int) := by rw [IntKind.wrap_i64]; omega

/-- A round of the document's square root: what the walk needs of it. -/
theorem sq_round {a m f : Nat} (ha : a ≤ 9223372036854775807) (s : Seek 2 a (m + 1) f) (hm : m < 32) :
    ∃ T G : Nat, IntKind.i64.wrap ((2 : Int) ^ m) = (T : Int) ∧ bits .or .i64 (f : Int) (T : Int) = (G : Int) ∧
      ((decide ((G : Int) ≤ 3037000499) = false ∧ Seek 2 a m f) ∨
       (decide ((G : Int) ≤ 3037000499) = true ∧ ∃ P : Nat, IntKind.i64.wrap ((G : Int) * (G : Int)) = (P : Int) ∧ decide (P ≤ a) = true ∧ Seek 2 a m G) ∨
       (decide ((G : Int) ≤ 3037000499) = true ∧ ∃ P : Nat, IntKind.i64.wrap ((G : Int) * (G : Int)) = (P : Int) ∧ decide (P ≤ a) = false ∧ Seek 2 a m f)) := by
  have hb := s.below (W := 32) (by omega) (by omega)
  have hq : 2 ^ (m + 1) = 2 ^ m * 2 := Nat.pow_succ ..
  have hp := Nat.two_pow_pos m
  refine ⟨2 ^ m, f + 2 ^ m, ?_, ?_, ?_⟩
  · rw [show ((2 : Int) ^ m) = ((2 ^ m : Nat) : Int) by push_cast; rfl]; exact wrap64_nat _ (by omega)
  · rw [or_i64_nat _ _ (by omega) (by omega), or_bit s.at_]
  · have sy := s.yes
    have sn := s.no
    rw [Nat.pow_two] at sy sn
    generalize f + 2 ^ m = G at *
    by_cases hG : G ≤ 3037000499
    · have hGG : G * G ≤ 3037000499 * 3037000499 := Nat.mul_le_mul hG hG
      have hw : IntKind.i64.wrap ((G : Int) * (G : Int)) = ((G * G : Nat) : Int) := by rw [← Int.natCast_mul]; exact wrap64_nat _ (by omega)
      by_cases h : G * G ≤ a
      · exact Or.inr (Or.inl ⟨decide_eq_true (by omega), G * G, hw, decide_eq_true h, sy h⟩)
      · exact Or.inr (Or.inr ⟨decide_eq_true (by omega), G * G, hw, decide_eq_false h, sn h⟩)
    · have hGG : 3037000500 * 3037000500 ≤ G * G := Nat.mul_le_mul (by omega) (by omega)
      exact Or.inl ⟨decide_eq_false (by omega), sn (by omega)⟩

/-- A round of the document's cube root. -/
theorem cb_round {a m f : Nat} (ha : a ≤ 9223372036854775807) (s : Seek 3 a (m + 1) f) (hm : m < 21) :
    ∃ T G : Nat, IntKind.i64.wrap ((2 : Int) ^ m) = (T : Int) ∧ bits .or .i64 (f : Int) (T : Int) = (G : Int) ∧ decide ((G : Int) ≤ 2097151) = true ∧
       ∃ O P : Nat, IntKind.i64.wrap ((G : Int) * (G : Int)) = (O : Int) ∧ IntKind.i64.wrap ((O : Int) * (G : Int)) = (P : Int) ∧
         ((decide (P ≤ a) = true ∧ Seek 3 a m G) ∨ (decide (P ≤ a) = false ∧ Seek 3 a m f)) := by
  have hb := s.below (W := 21) (by omega) (by omega)
  have hq : 2 ^ (m + 1) = 2 ^ m * 2 := Nat.pow_succ ..
  have hp := Nat.two_pow_pos m
  refine ⟨2 ^ m, f + 2 ^ m, ?_, ?_, ?_, ?_⟩
  · rw [show ((2 : Int) ^ m) = ((2 ^ m : Nat) : Int) by push_cast; rfl]; exact wrap64_nat _ (by omega)
  · rw [or_i64_nat _ _ (by omega) (by omega), or_bit s.at_]
  · exact decide_eq_true (by omega)
  · have sy := s.yes
    have sn := s.no
    rw [Nat.pow_succ, Nat.pow_two] at sy sn
    have hG : f + 2 ^ m ≤ 2097151 := by omega
    generalize f + 2 ^ m = G at *
    have hGG : G * G ≤ 2097151 * 2097151 := Nat.mul_le_mul hG hG
    have hGGG : G * G * G ≤ 2097151 * 2097151 * 2097151 := Nat.mul_le_mul hGG hG
    refine ⟨G * G, G * G * G, ?_, ?_, ?_⟩
    · rw [← Int.natCast_mul]; exact wrap64_nat _ (by omega)
    · rw [← Int.natCast_mul]; exact wrap64_nat _ (by omega)
    · by_cases h : G * G * G ≤ a
      · exact Or.inl ⟨decide_eq_true h, sy h⟩
      · exact Or.inr ⟨decide_eq_false h, sn h⟩

theorem rsqrt_neg (a : Int) (up : Bool) (hn : a < 0) (w : World) :
    Calls Try.prog 22 #[.int .i64 a, .bool up] w fun e w' => e = .returned (.tuple #[.int .i64 0, .int .i64 20]) ∧ w = w' := by
  go_enter Try.func22, Try.ntmps22
  go_wp2
  go_ret2
  exact ⟨rfl, rfl⟩

theorem rsqrt_nat (a : Nat) (up : Bool) (ha : a ≤ 9223372036854775807) (w : World) :
    Calls Try.prog 22 #[.int .i64 a, .bool up] w fun e w' => e = .returned (.tuple #[.int .i64 (rootUp 2 a up : Int), .int .i64 0]) ∧ w = w' := by
  have S0 := Seek.first 2 a 32 (by omega) (by omega)
  go_enter Try.func22, Try.ntmps22
  go_wp2
  go_loop [6, 7] (fun x y => ∃ n f : Nat, n ≤ 32 ∧ Seek 2 a n f ∧ x = .int .i64 f ∧ y = .int .i64 ((n : Int) - 1)) (fun _ y => (intOf y + 1).toNat)
  case atStart => exact ⟨32, 0, Nat.le_refl _, S0, rfl, rfl⟩
  case round =>
    clear S0
    obtain ⟨n, f, hn, hs, rfl, rfl⟩ := hrel
    cases n with
    | zero =>
      obtain rfl := hs.done (by omega)
      have hr := (rootOf_spec 2 (by omega) a).1
      have hsm := root_small (k := 2) (a := a) (W := 32) (by omega) (by omega) (by omega)
      have hup : rootUp 2 a up = if (up && decide (rootOf 2 a ^ 2 < a)) = true then rootOf 2 a + 1 else rootOf 2 a := rfl
      obtain ⟨F, hF⟩ : ∃ F, F = rootOf 2 a := ⟨_, rfl⟩
      rw [← hF] at hsm hr hup ⊢
      rw [Nat.pow_two] at hr hup
      have hw : IntKind.i64.wrap ((F : Int) * (F : Int)) = ((F * F : Nat) : Int) := by rw [← Int.natCast_mul]; exact wrap64_nat _ (by omega)
      have hsm1 : (F : Int) < 4611686018427387904 := by omega
      generalize F * F = P at *
      cases up
      · have HU := Lib.hid hup
        clear hup hF hs hr
        go_wp2
        go_ret2
        rw [HU.out]
        exact ⟨rfl, rfl⟩
      · by_cases hc : P < a
        · have hB : decide (P < a) = true := decide_eq_true hc
          have HU := Lib.hid (hup.trans (if_pos (by simp only [Bool.true_and]; exact decide_eq_true hc)))
          clear hup hF hs hc hr
          go_wp2
          go_ret2
          rw [HU.out]
          exact ⟨rfl, rfl⟩
        · have hB : decide (P < a) = false := decide_eq_false hc
          have HU := Lib.hid (hup.trans (if_neg (by simp only [Bool.true_and]; exact fun x => hc (of_decide_eq_true x))))
          clear hup hF hs hc hr
          go_wp2
          go_ret2
          rw [HU.out]
          exact ⟨rfl, rfl⟩
    | succ m =>
      have e1 : ((m + 1 : Nat) : Int) - 1 = (m : Int) := by omega
      rw [e1]
      obtain ⟨T, G, t1, t2, ways⟩ := sq_round ha hs hn
      clear hs e1
      rcases ways with ⟨t3, hs'⟩ | ⟨t3, P, t4, t5, hs'⟩ | ⟨t3, P, t4, t5, hs'⟩
      all_goals
        go_wp2
        go_round
        case rel => exact ⟨m, _, by omega, hs', rfl, rfl⟩
        case measure => simp [intOf]
theorem rcbrt_neg (a : Int) (up : Bool) (hn : a < 0) (w : World) :
    Calls Try.prog 24 #[.int .i64 a, .bool up] w fun e w' => e = .returned (.tuple #[.int .i64 0, .int .i64 20]) ∧ w = w' := by
  go_enter Try.func24, Try.ntmps24
  go_wp2
  go_ret2
  exact ⟨rfl, rfl⟩

theorem rcbrt_nat (a : Nat) (up : Bool) (ha : a ≤ 9223372036854775807) (w : World) :
    Calls Try.prog 24 #[.int .i64 a, .bool up] w fun e w' => e = .returned (.tuple #[.int .i64 (rootUp 3 a up : Int), .int .i64 0]) ∧ w = w' := by
  have S0 := Seek.first 3 a 21 (by omega) (by omega)
  go_enter Try.func24, Try.ntmps24
  go_wp2
  go_loop [6, 7] (fun x y => ∃ n f : Nat, n ≤ 21 ∧ Seek 3 a n f ∧ x = .int .i64 f ∧ y = .int .i64 ((n : Int) - 1)) (fun _ y => (intOf y + 1).toNat)
  case atStart => exact ⟨21, 0, Nat.le_refl _, S0, rfl, rfl⟩
  case round =>
    clear S0
    obtain ⟨n, f, hn, hs, rfl, rfl⟩ := hrel
    cases n with
    | zero =>
      obtain rfl := hs.done (by omega)
      have hr := (rootOf_spec 3 (by omega) a).1
      have hsm := root_small (k := 3) (a := a) (W := 21) (by omega) (by omega) (by omega)
      have hup : rootUp 3 a up = if (up && decide (rootOf 3 a ^ 3 < a)) = true then rootOf 3 a + 1 else rootOf 3 a := rfl
      obtain ⟨F, hF⟩ : ∃ F, F = rootOf 3 a := ⟨_, rfl⟩
      rw [← hF] at hsm hr hup ⊢
      have hF2 : F ≤ 2097151 := by
        have := pow_back (k := 3) (a := F) (b := 2097152) (by omega)
        omega
      have hFF : F * F ≤ 2097151 * 2097151 := Nat.mul_le_mul hF2 hF2
      rw [Nat.pow_succ, Nat.pow_two] at hr hup
      have hw : IntKind.i64.wrap ((F : Int) * (F : Int)) = ((F * F : Nat) : Int) := by rw [← Int.natCast_mul]; exact wrap64_nat _ (by omega)
      have hw' : IntKind.i64.wrap (((F * F : Nat) : Int) * (F : Int)) = ((F * F * F : Nat) : Int) := by rw [← Int.natCast_mul]; exact wrap64_nat _ (by omega)
      have hsm1 : (F : Int) < 4611686018427387904 := by omega
      generalize F * F * F = P at *
      generalize F * F = O at *
      clear hFF hF2
      cases up
      · have HU := Lib.hid hup
        clear hup hF hs hr
        go_wp2
        go_ret2
        rw [HU.out]
        exact ⟨rfl, rfl⟩
      · by_cases hc : P < a
        · have hB : decide (P < a) = true := decide_eq_true hc
          have HU := Lib.hid (hup.trans (if_pos (by simp only [Bool.true_and]; exact decide_eq_true hc)))
          clear hup hF hs hc hr
          go_wp2
          go_ret2
          rw [HU.out]
          exact ⟨rfl, rfl⟩
        · have hB : decide (P < a) = false := decide_eq_false hc
          have HU := Lib.hid (hup.trans (if_neg (by simp only [Bool.true_and]; exact fun x => hc (of_decide_eq_true x))))
          clear hup hF hs hc hr
          go_wp2
          go_ret2
          rw [HU.out]
          exact ⟨rfl, rfl⟩
    | succ m =>
      have e1 : ((m + 1 : Nat) : Int) - 1 = (m : Int) := by omega
      rw [e1]
      obtain ⟨T, G, t1, t2, t3, O, P, t4, t5, ways⟩ := cb_round ha hs hn
      clear hs e1
      rcases ways with ⟨t6, hs'⟩ | ⟨t6, hs'⟩
      all_goals
        go_wp2
        go_round
        case rel => exact ⟨m, _, by omega, hs', rfl, rfl⟩
        case measure => simp [intOf]

theorem rsqrt_any (a : Int) (up : Bool) (ha : I64 a) (w : World) :
    Calls Try.prog 22 #[.int .i64 a, .bool up] w fun e w' => e = .returned (.tuple #[.int .i64 (rv 2 a up), .int .i64 (re a)]) ∧ w = w' := by
  unfold I64 at ha
  by_cases hn : a < 0
  · rw [rv, re, if_pos hn, if_pos hn]
    exact rsqrt_neg a up hn w
  · rw [rv, re, if_neg hn, if_neg hn]
    obtain ⟨n, rfl⟩ := Int.eq_ofNat_of_zero_le (show 0 ≤ a by omega)
    rw [Int.toNat_natCast]
    exact rsqrt_nat n up (by omega) w
theorem rcbrt_any (a : Int) (up : Bool) (ha : I64 a) (w : World) :
    Calls Try.prog 24 #[.int .i64 a, .bool up] w fun e w' => e = .returned (.tuple #[.int .i64 (rv 3 a up), .int .i64 (re a)]) ∧ w = w' := by
  unfold I64 at ha
  by_cases hn : a < 0
  · rw [rv, re, if_pos hn, if_pos hn]
    exact rcbrt_neg a up hn w
  · rw [rv, re, if_neg hn, if_neg hn]
    obtain ⟨n, rfl⟩ := Int.eq_ofNat_of_zero_le (show 0 ≤ a by omega)
    rw [Int.toNat_natCast]
    exact rcbrt_nat n up (by omega) w
end Go.Proofs.Ytfopgblhkophpaa
