/-
  Contracts of the document's own names.
-/
import Derived.Test.YtknpabijhmcjhaaNamem
import Derived.Test.YtknpabijhmcjhaaChecked
import Derived.Lib.Hide
import Derived.KernelRfl
namespace Go.Proofs.Ytknpabijhmcjhaa
open Go.RowKit

theorem r8lower_any (n : Nat) (w : World) : Calls Try.prog 22 #[.int .u8 (n : Int)] w fun e w' => e = .returned (.bool (lowN n)) ∧ w = w' := by
  unfold lowN
  by_cases c : 97 ≤ n
  · have cB : decide ((97 : Int) ≤ (n : Int)) = true := decide_eq_true (by omega)
    have e2 : decide (n ≤ 122) = decide ((n : Int) ≤ 122) := decide_eq_decide.2 (by omega)
    rw [decide_eq_true c, e2, Bool.true_and]
    go_enter Try.func22, Try.ntmps22
    go_wp2
    go_ret
    exact ⟨rfl, rfl⟩
  · have cB : decide ((97 : Int) ≤ (n : Int)) = false := decide_eq_false (by omega)
    rw [decide_eq_false c, Bool.false_and]
    go_enter Try.func22, Try.ntmps22
    go_wp2
    go_ret
    exact ⟨rfl, rfl⟩
theorem r8digit_any (n : Nat) (w : World) : Calls Try.prog 21 #[.int .u8 (n : Int)] w fun e w' => e = .returned (.bool (digN n)) ∧ w = w' := by
  unfold digN
  by_cases c : 48 ≤ n
  · have cB : decide ((48 : Int) ≤ (n : Int)) = true := decide_eq_true (by omega)
    have e2 : decide (n ≤ 57) = decide ((n : Int) ≤ 57) := decide_eq_decide.2 (by omega)
    rw [decide_eq_true c, e2, Bool.true_and]
    go_enter Try.func21, Try.ntmps21
    go_wp2
    go_ret
    exact ⟨rfl, rfl⟩
  · have cB : decide ((48 : Int) ≤ (n : Int)) = false := decide_eq_false (by omega)
    rw [decide_eq_false c, Bool.false_and]
    go_enter Try.func21, Try.ntmps21
    go_wp2
    go_ret
    exact ⟨rfl, rfl⟩
theorem r8name_any (s : ByteArray) (w : World) : Calls Try.prog 17 #[.string s] w fun e w' => e = .returned (.bool (nameS s)) ∧ w = w' := by
  by_cases h1 : s.size < 1
  · have h1B : decide ((s.size : Int) < 1) = true := decide_eq_true (by omega)
    rw [nameS_size (.inl h1)]
    clear h1
    go_enter Try.func17, Try.ntmps17
    go_wp2
    go_ret
    exact ⟨rfl, rfl⟩
  have h1B : decide ((s.size : Int) < 1) = false := decide_eq_false (by omega)
  by_cases h2 : 16 < s.size
  · have h2B : decide ((16 : Int) < (s.size : Int)) = true := decide_eq_true (by omega)
    rw [nameS_size (.inr h2)]
    clear h1 h2
    go_enter Try.func17, Try.ntmps17
    go_wp2
    go_ret
    exact ⟨rfl, rfl⟩
  have h2B : decide ((16 : Int) < (s.size : Int)) = false := decide_eq_false (by omega)
  have hz : (0 : Int) < (s.size : Int) := by omega
  have hg0 : ∀ h : 0 < s.size, (s[0]'h).toNat = byteAt s 0 := fun h => byteAt_get s 0 h
  have c0 := fun w => r8lower_any (byteAt s 0) w
  cases h3 : lowN (byteAt s 0)
  · rw [nameS_first h3]
    rw [h3] at c0
    generalize byteAt s 0 = b0 at *
    clear h3
    go_enter Try.func17, Try.ntmps17
    go_wp2_with fail
    refine (c0 _).mono ?_
    rintro e w1 ⟨rfl, rfl⟩
    go_wp2
    go_ret
    exact ⟨rfl, rfl⟩
  rw [h3] at c0
  have hgood := Lib.hid (fun h => nameS_good (s := s) (by omega) (by omega) h3 h)
  have hbad := @nameS_bad s
  generalize byteAt s 0 = b0 at *
  generalize nameS s = R at *
  clear h3 h1
  go_enter Try.func17, Try.ntmps17
  go_wp2_with fail
  refine (c0 _).mono ?_
  rintro e w1 ⟨rfl, rfl⟩
  clear c0 hg0
  go_wp2
  go_loopw [3] (fun i wr => ∃ k : Nat, k ≤ s.size ∧ i = .int .i64 k ∧ (∀ j, j < k → (lowN (byteAt s j) || digN (byteAt s j)) = true) ∧ w = wr) (fun i _ => s.size + 1 - (intOf i).toNat)
  case atStart => exact ⟨0, Nat.zero_le _, rfl, fun j hj => by omega, rfl⟩
  case round =>
    obtain ⟨k, hk, rfl, hall, rfl⟩ := hrel
    by_cases hl : k < s.size
    · have hlB : decide ((k : Int) < (s.size : Int)) = true := decide_eq_true (by omega)
      have hlI : (k : Int) < (s.size : Int) := by omega
      have hkB : (0 : Int) ≤ (k : Int) := by omega
      have wk1 : IntKind.i64.wrap ((k : Int) + 1) = (k : Int) + 1 := by rw [IntKind.wrap_i64]; omega
      have hg : ∀ h : k < s.size, (s[k]'h).toNat = byteAt s k := fun h => byteAt_get s k h
      have c1 := fun w => r8lower_any (byteAt s k) w
      have c2 := fun w => r8digit_any (byteAt s k) w
      have hb := hbad hl
      have hnext : (lowN (byteAt s k) || digN (byteAt s k)) = true → ∀ j, j < k + 1 → (lowN (byteAt s j) || digN (byteAt s j)) = true := fun h j hj => by
        by_cases c : j = k
        · subst c; exact h
        · exact hall j (by omega)
      clear hall
      generalize byteAt s k = b at *
      cases h4 : lowN b
      · cases h5 : digN b
        · rw [h4, h5] at hb
          obtain rfl := hb rfl
          rw [h4] at c1
          rw [h5] at c2
          clear hnext h4 h5
          go_wp2_with fail
          refine (c1 _).mono ?_
          rintro e w1 ⟨rfl, rfl⟩
          go_wp2_with fail
          refine (c2 _).mono ?_
          rintro e w1 ⟨rfl, rfl⟩
          go_wp2
          go_ret
          exact ⟨rfl, rfl⟩
        · have HA := Lib.hid (hnext (by rw [h4, h5]; rfl))
          rw [h4] at c1
          rw [h5] at c2
          clear hnext h4 h5 hb
          go_wp2_with fail
          refine (c1 _).mono ?_
          rintro e w1 ⟨rfl, rfl⟩
          go_wp2_with fail
          refine (c2 _).mono ?_
          rintro e w1 ⟨rfl, rfl⟩
          go_wp2
          go_roundw
          case rel => exact ⟨k + 1, by omega, by go_num, HA.out, trivial⟩
          case measure => simp [intOf]; omega
      · have HA := Lib.hid (hnext (by rw [h4]; rfl))
        rw [h4] at c1
        clear hnext h4 hb c2
        go_wp2_with fail
        refine (c1 _).mono ?_
        rintro e w1 ⟨rfl, rfl⟩
        go_wp2
        go_roundw
        case rel => exact ⟨k + 1, by omega, by go_num, HA.out, trivial⟩
        case measure => simp [intOf]; omega
    · have hlB : decide ((k : Int) < (s.size : Int)) = false := decide_eq_false (by omega)
      have HR := Lib.hid (hgood.out (fun i hi => hall i (by omega)))
      clear hall hgood hbad
      go_wp2
      go_ret
      exact ⟨by rw [HR.out]; rfl, rfl⟩
end Go.Proofs.Ytknpabijhmcjhaa
