/-
  Contracts: the code's Name, the document's Number.
-/
import Derived.Test.YtknpabijhmcjhaaNumc
namespace Go.Proofs.Ytknpabijhmcjhaa
open Go.RowKit

theorem kind_low {n : Nat} : lowN n = true ↔ kindN n = 1 := by
  constructor
  · intro h
    unfold kindN
    rw [if_pos h]
  · intro h
    unfold kindN at h
    split at h
    · assumption
    repeat' (split at h)
    all_goals omega
set_option maxHeartbeats 1000000 in
theorem name_any (s : ByteArray) (w : World) : Calls Try.prog 16 #[.string s] w fun e w' => e = .returned (.bool (nameS s)) ∧ B w w' := by
  have hE := toList_empty s
  by_cases h2 : 16 < s.size
  · have h2B : decide ((16 : Int) < (s.size : Int)) = true := decide_eq_true (by omega)
    rw [nameS_size (.inr h2)]
    clear h2 hE
    go_enter Try.func16, Try.ntmps16
    go_wp2
    go_ret
    exact ⟨rfl, B.refl _⟩
  have h2B : decide ((16 : Int) < (s.size : Int)) = false := decide_eq_false (by omega)
  by_cases h1 : s.size < 1
  · rw [decide_eq_true h1] at hE
    rw [nameS_size (.inl h1)]
    clear h1 h2
    go_enter Try.func16, Try.ntmps16
    go_wp2
    go_ret
    exact ⟨rfl, B.refl _⟩
  rw [decide_eq_false h1] at hE
  have hz : (0 : Int) < (s.size : Int) := by omega
  have hz' : 0 < s.size := by omega
  have hg0 : ∀ h : 0 < s.size, (s[0]'h).toNat = byteAt s 0 := fun h => byteAt_get s 0 h
  have ck := fun w => kind_any (byteAt s 0) w
  cases h3 : lowN (byteAt s 0)
  · have hK : ((kindN (byteAt s 0) : Int) != 1) = true := by
      have : kindN (byteAt s 0) ≠ 1 := fun e => by rw [kind_low.2 e] at h3; cases h3
      simp; omega
    rw [nameS_first h3]
    obtain ⟨m, hm⟩ : ∃ m, byteAt s 0 = m := ⟨_, rfl⟩
    rw [hm] at hg0 hK ck
    generalize kindN m = K at *
    clear h1 h2 h3 hm
    go_enter Try.func16, Try.ntmps16
    go_wp2_with fail
    refine (ck _).mono ?_
    rintro e w1 ⟨rfl, rfl⟩
    go_wp2
    go_ret
    exact ⟨rfl, B.refl _⟩
  have hK : ((kindN (byteAt s 0) : Int) != 1) = false := by
    have := kind_low.1 h3
    simp; omega
  have hconv := fun w => Lib.run_convert_string_bytes (P := Try.prog) w 9 22 5 s Try.underlying9 Try.underlying22 Try.underlying5
  have hcell : ∀ j, j < s.size → (Lib.bytesWorld w 5 s).cell? ⟨w.heap.size, j, none⟩ = some (.int .u8 ((byteAt s j : Nat) : Int)) := fun j hj => Lib.bytesWorld_cell w _ s j hj
  have HB := Lib.hid ((B.refl w).bytes 5 s)
  have hgood := Lib.hid (fun h => nameS_good (s := s) (by omega) (by omega) h3 h)
  have hbad := Lib.hid (show ∀ i, i < s.size → (lowN (byteAt s i) || digN (byteAt s i)) = false → nameS s = false from fun i h1 h2 => nameS_bad h1 h2)
  generalize nameS s = R at *
  have HSZ := Lib.hid (show s.size ≤ 16 by omega)
  generalize hb0 : byteAt s 0 = b0 at hg0 hK ck
  generalize kindN b0 = K at *
  clear h1 h2 h3 hb0
  go_enter Try.func16, Try.ntmps16
  go_wp2_with fail
  refine (ck _).mono ?_
  rintro e w1 ⟨rfl, rfl⟩
  clear ck
  go_wp2
  clear hg0 hK hE h2B
  generalize Lib.bytesWorld w 5 s = W1 at *
  generalize w.heap.size = H at *
  go_loopw [22] (fun iv wr => ∃ k : Nat, k ≤ s.size ∧ iv = .int .i64 k ∧ (∀ j, j < k → (lowN (byteAt s j) || digN (byteAt s j)) = true) ∧ W1 = wr) (fun iv _ => s.size + 1 - (intOf iv).toNat)
  case atStart => exact ⟨0, Nat.zero_le _, rfl, fun j hj => by omega, rfl⟩
  case round =>
    obtain ⟨k, hk, rfl, hall, rfl⟩ := hrel
    by_cases hl : k < s.size
    · have hlB : decide ((k : Int) < (s.size : Int)) = true := decide_eq_true (by omega)
      have hlI : (k : Int) < (s.size : Int) := by omega
      have wk1 : IntKind.i64.wrap ((k : Int) + 1) = (k : Int) + 1 := by have := HSZ.out; rw [IntKind.wrap_i64]; omega
      have hc := hcell k hl
      have ck := fun w => kind_any (byteAt s k) w
      have hnext : (lowN (byteAt s k) || digN (byteAt s k)) = true → ∀ j, j < k + 1 → (lowN (byteAt s j) || digN (byteAt s j)) = true := fun h j hj => by
        by_cases c : j = k
        · subst c; exact h
        · exact hall j (by omega)
      obtain ⟨m, hm⟩ : ∃ m, byteAt s k = m := ⟨_, rfl⟩
      have hb := hbad.out k hl
      rw [hm] at hc ck hnext hb
      by_cases c1 : kindN m = 1
      · have hK : ((kindN m : Int) != 1) = false := by simp; omega
        have HA := Lib.hid (And.intro (hnext (by rw [kind_low.2 c1]; rfl)) hl)
        generalize kindN m = K at *
        clear hnext hb hall hm c1 hcell hbad hgood HB hl hk
        go_wp2_with fail
        refine (ck _).mono ?_
        rintro e w1 ⟨rfl, rfl⟩
        clear ck
        go_wp2
        go_roundw
        case rel => exact ⟨k + 1, by have := HA.out.2; omega, by go_num, HA.out.1, trivial⟩
        case measure => have := HA.out.2; simp [intOf]; omega
      by_cases c3 : kindN m = 3
      · have hK : ((kindN m : Int) != 1) = true := by simp; omega
        have hK3 : ((kindN m : Int) != 3) = false := by simp; omega
        have HA := Lib.hid (And.intro (hnext (by rw [kind_dig.2 c3]; simp)) hl)
        generalize kindN m = K at *
        clear hnext hb hall hm c1 c3 hcell hbad hgood HB hl hk
        go_wp2_with fail
        refine (ck _).mono ?_
        rintro e w1 ⟨rfl, rfl⟩
        clear ck
        go_wp2
        go_roundw
        case rel => exact ⟨k + 1, by have := HA.out.2; omega, by go_num, HA.out.1, trivial⟩
        case measure => have := HA.out.2; simp [intOf]; omega
      · have hK : ((kindN m : Int) != 1) = true := by simp; omega
        have hK3 : ((kindN m : Int) != 3) = true := by simp; omega
        have e1 : lowN m = false := by
          cases h : lowN m
          · rfl
          · exact absurd (kind_low.1 h) c1
        have e3 : digN m = false := by
          cases h : digN m
          · rfl
          · exact absurd (kind_dig.1 h) c3
        obtain rfl := hb (by rw [e1, e3]; rfl)
        generalize kindN m = K at *
        clear hnext hb hall hm c1 c3 e1 e3 hcell hbad hgood hl hk
        go_wp2_with fail
        refine (ck _).mono ?_
        rintro e w1 ⟨rfl, rfl⟩
        clear ck
        go_wp2
        go_ret
        exact ⟨rfl, HB.out⟩
    · have hlB : decide ((k : Int) < (s.size : Int)) = false := decide_eq_false (by omega)
      have HR := Lib.hid (hgood.out (fun i hi => hall i (by omega)))
      clear hall hgood hbad hcell hk
      go_wp2
      go_ret
      exact ⟨by rw [HR.out]; rfl, HB.out⟩

set_option maxHeartbeats 1000000 in
theorem r8number_any (s : ByteArray) (w : World) : Calls Try.prog 15 #[.string s] w fun e w' => e = .returned (.tuple #[.int .i64 ((numV s : Nat) : Int), .bool (numOk s)]) ∧ w = w' := by
  have hE := toList_empty s
  have no : numOk s = false ∧ numV s = 0 → Ending.returned (.tuple #[.int .i64 0, .bool false]) = Ending.returned (.tuple #[.int .i64 ((numV s : Nat) : Int), .bool (numOk s)]) := fun h => by rw [h.1, h.2]; rfl
  by_cases h1 : s.size < 1
  · rw [decide_eq_true h1] at hE
    have HR := Lib.hid (no (num_no (s := s) (fun h => by omega)))
    clear h1 no
    go_enter Try.func15, Try.ntmps15
    go_wp2
    go_ret2
    exact ⟨HR.out, rfl⟩
  rw [decide_eq_false h1] at hE
  by_cases h2 : 13 < s.size
  · have h2B : decide ((13 : Int) < (s.size : Int)) = true := decide_eq_true (by omega)
    have HR := Lib.hid (no (num_long h2))
    clear h1 h2 no
    go_enter Try.func15, Try.ntmps15
    go_wp2
    go_ret2
    exact ⟨HR.out, rfl⟩
  have h2B : decide ((13 : Int) < (s.size : Int)) = false := decide_eq_false (by omega)
  have hg0 : ∀ h : 0 < s.size, (s[0]'h).toNat = byteAt s 0 := fun h => byteAt_get s 0 h
  have hz : (0 : Int) < (s.size : Int) := by omega
  have hz' : 0 < s.size := by omega
  have HSZ := Lib.hid (show s.size ≤ 13 by omega)
  by_cases h3 : s.size ≠ 1 ∧ byteAt s 0 = 48
  · have h1B : decide ((1 : Int) < (s.size : Int)) = true := decide_eq_true (by omega)
    have e48 : ((byteAt s 0 : Int) == 48) = true := by rw [h3.2]; rfl
    have HR := Lib.hid (no (num_first h3.1 h3.2))
    generalize hb0 : byteAt s 0 = b0 at hg0 e48
    clear h1 h2 h3 hb0 no
    go_enter Try.func15, Try.ntmps15
    go_wp2
    go_ret2
    exact ⟨HR.out, rfl⟩
  have H1 := Lib.hid (show 1 ≤ s.size ∧ ¬ (2 ≤ s.size ∧ byteAt s 0 = 48) from ⟨by omega, fun h => h3 ⟨by omega, h.2⟩⟩)
  have hgk := Lib.hid (fun k h => byteAt_get s k h)
  replace no := Lib.hid no
  by_cases h4 : s.size = 1
  · have h1B : decide ((1 : Int) < (s.size : Int)) = false := decide_eq_false (by omega)
    clear h1 h2 h3 h4
    go_enter Try.func15, Try.ntmps15
    go_wp2
    clear hE hg0 h2B h1B 
    go_loopw [4, 5] (fun nv iv wr => ∃ k : Nat, k ≤ s.size ∧ iv = .int .i64 k ∧ nv = .int .i64 ((valTo s k : Nat) : Int) ∧ (∀ j, j < k → digN (byteAt s j) = true) ∧ w = wr) (fun _ iv _ => s.size + 1 - (intOf iv).toNat)
    case atStart => exact ⟨0, by omega, rfl, rfl, fun j hj => by omega, rfl⟩
    case round =>
      obtain ⟨k, hk, rfl, rfl, hall, rfl⟩ := hrel
      by_cases hl : k < s.size
      · have hlB : decide ((k : Int) < (s.size : Int)) = true := decide_eq_true (by omega)
        have hlI : (k : Int) < (s.size : Int) := by omega
        have hk0 : (0 : Int) ≤ (k : Int) := by omega
        have wk1 : IntKind.i64.wrap ((k : Int) + 1) = (k : Int) + 1 := by have := HSZ.out; rw [IntKind.wrap_i64]; omega
        have hg : ∀ h : k < s.size, (s[k]'h).toNat = byteAt s k := fun h => byteAt_get s k h
        have ck := fun w => r8digit_any (byteAt s k) w
        cases hd : digN (byteAt s k)
        · rw [hd] at ck
          have HR := Lib.hid (no.out (num_bad hl hd))
          obtain ⟨m, hm⟩ : ∃ m, byteAt s k = m := ⟨_, rfl⟩
          rw [hm] at hg ck
          clear hall hd hm H1 hk no hgk
          go_wp2_with fail
          refine (ck _).mono ?_
          rintro e w1 ⟨rfl, rfl⟩
          clear ck
          go_wp2
          go_ret2
          exact ⟨HR.out, rfl⟩
        · rw [hd] at ck
          obtain ⟨d, d1, d2, d3⟩ := num_step hd
          have hall' : ∀ j, j < k + 1 → digN (byteAt s j) = true := fun j hj => by
            by_cases c : j = k
            · subst c; exact hd
            · exact hall j (by omega)
          have hv : valTo s k < 10 ^ k := valTo_high s k hall
          have hv13 : (10 : Nat) ^ k ≤ 10 ^ 13 := Nat.pow_le_pow_right (by decide) (by have := HSZ.out; omega)
          have hv14 : (10 : Nat) ^ 13 = 10000000000000 := by decide
          obtain ⟨V, hV⟩ : ∃ V, valTo s k = V := ⟨_, rfl⟩
          obtain ⟨V', hV'⟩ : ∃ V', valTo s (k + 1) = V' := ⟨_, rfl⟩
          obtain ⟨T, hT⟩ : ∃ T, T = V * 10 := ⟨_, rfl⟩
          rw [hV] at hv
          have p1 : IntKind.i64.wrap (10 * (V : Int)) = (T : Int) := by rw [IntKind.wrap_i64]; omega
          have p2 := pick_dig d1 d2
          have p3 : IntKind.i64.wrap (d : Int) = (d : Int) := by rw [IntKind.wrap_i64]; omega
          have p4 : IntKind.i64.wrap ((T : Int) + (d : Int)) = (V' : Int) := by rw [IntKind.wrap_i64]; omega
          obtain ⟨m, hm⟩ : ∃ m, byteAt s k = m := ⟨_, rfl⟩
          rw [hm] at hg ck p2
          have HA := Lib.hid (And.intro hall' (And.intro hl hV'))
          rw [hV]
          clear hall hall' hv hv13 hv14 hd hm H1 hk d1 d2 d3 hV hV' hT no hgk
          go_wp2_with fail
          refine (ck _).mono ?_
          rintro e w1 ⟨rfl, rfl⟩
          clear ck
          go_wp2
          go_roundw
          case rel => exact ⟨k + 1, by have := HA.out.2.1; omega, by go_num, by rw [HA.out.2.2], HA.out.1, trivial⟩
          case measure => have := HA.out.2.1; simp [intOf]; omega
      · have hlB : decide ((k : Int) < (s.size : Int)) = false := decide_eq_false (by omega)
        obtain rfl : k = s.size := by omega
        by_cases hbig : 1000000000000 < valTo s s.size
        · have bB : decide ((1000000000000 : Int) < (valTo s s.size : Int)) = true := decide_eq_true (by omega)
          have HR := Lib.hid (no.out (num_big (Nat.le_refl _) hbig))
          generalize valTo s s.size = V at *
          clear hall H1 hk no hgk hbig
          go_wp2
          go_ret2
          exact ⟨HR.out, rfl⟩
        · have bB : decide ((1000000000000 : Int) < (valTo s s.size : Int)) = false := decide_eq_false (by omega)
          have HR := Lib.hid (show Ending.returned (.tuple #[.int .i64 ((valTo s s.size : Nat) : Int), .bool true]) = Ending.returned (.tuple #[.int .i64 ((numV s : Nat) : Int), .bool (numOk s)]) from by
            obtain ⟨e1, e2⟩ := num_yes ⟨H1.out.1, H1.out.2, hall, by omega⟩
            rw [e1, e2])
          generalize valTo s s.size = V at *
          clear hall H1 hk no hgk hbig
          go_wp2
          go_ret2
          exact ⟨HR.out, rfl⟩
  · have h1B : decide ((1 : Int) < (s.size : Int)) = true := decide_eq_true (by omega)
    have e48 : ((byteAt s 0 : Int) == 48) = false := by simp; omega
    generalize hb0 : byteAt s 0 = b0 at hg0 e48
    clear h1 h2 h3 h4 hb0
    go_enter Try.func15, Try.ntmps15
    go_wp2
    clear hE hg0 h2B h1B e48
    go_loopw [4, 5] (fun nv iv wr => ∃ k : Nat, k ≤ s.size ∧ iv = .int .i64 k ∧ nv = .int .i64 ((valTo s k : Nat) : Int) ∧ (∀ j, j < k → digN (byteAt s j) = true) ∧ w = wr) (fun _ iv _ => s.size + 1 - (intOf iv).toNat)
    case atStart => exact ⟨0, by omega, rfl, rfl, fun j hj => by omega, rfl⟩
    case round =>
      obtain ⟨k, hk, rfl, rfl, hall, rfl⟩ := hrel
      by_cases hl : k < s.size
      · have hlB : decide ((k : Int) < (s.size : Int)) = true := decide_eq_true (by omega)
        have hlI : (k : Int) < (s.size : Int) := by omega
        have hk0 : (0 : Int) ≤ (k : Int) := by omega
        have wk1 : IntKind.i64.wrap ((k : Int) + 1) = (k : Int) + 1 := by have := HSZ.out; rw [IntKind.wrap_i64]; omega
        have hg : ∀ h : k < s.size, (s[k]'h).toNat = byteAt s k := fun h => byteAt_get s k h
        have ck := fun w => r8digit_any (byteAt s k) w
        cases hd : digN (byteAt s k)
        · rw [hd] at ck
          have HR := Lib.hid (no.out (num_bad hl hd))
          obtain ⟨m, hm⟩ : ∃ m, byteAt s k = m := ⟨_, rfl⟩
          rw [hm] at hg ck
          clear hall hd hm H1 hk no hgk
          go_wp2_with fail
          refine (ck _).mono ?_
          rintro e w1 ⟨rfl, rfl⟩
          clear ck
          go_wp2
          go_ret2
          exact ⟨HR.out, rfl⟩
        · rw [hd] at ck
          obtain ⟨d, d1, d2, d3⟩ := num_step hd
          have hall' : ∀ j, j < k + 1 → digN (byteAt s j) = true := fun j hj => by
            by_cases c : j = k
            · subst c; exact hd
            · exact hall j (by omega)
          have hv : valTo s k < 10 ^ k := valTo_high s k hall
          have hv13 : (10 : Nat) ^ k ≤ 10 ^ 13 := Nat.pow_le_pow_right (by decide) (by have := HSZ.out; omega)
          have hv14 : (10 : Nat) ^ 13 = 10000000000000 := by decide
          obtain ⟨V, hV⟩ : ∃ V, valTo s k = V := ⟨_, rfl⟩
          obtain ⟨V', hV'⟩ : ∃ V', valTo s (k + 1) = V' := ⟨_, rfl⟩
          obtain ⟨T, hT⟩ : ∃ T, T = V * 10 := ⟨_, rfl⟩
          rw [hV] at hv
          have p1 : IntKind.i64.wrap (10 * (V : Int)) = (T : Int) := by rw [IntKind.wrap_i64]; omega
          have p2 := pick_dig d1 d2
          have p3 : IntKind.i64.wrap (d : Int) = (d : Int) := by rw [IntKind.wrap_i64]; omega
          have p4 : IntKind.i64.wrap ((T : Int) + (d : Int)) = (V' : Int) := by rw [IntKind.wrap_i64]; omega
          obtain ⟨m, hm⟩ : ∃ m, byteAt s k = m := ⟨_, rfl⟩
          rw [hm] at hg ck p2
          have HA := Lib.hid (And.intro hall' (And.intro hl hV'))
          rw [hV]
          clear hall hall' hv hv13 hv14 hd hm H1 hk d1 d2 d3 hV hV' hT no hgk
          go_wp2_with fail
          refine (ck _).mono ?_
          rintro e w1 ⟨rfl, rfl⟩
          clear ck
          go_wp2
          go_roundw
          case rel => exact ⟨k + 1, by have := HA.out.2.1; omega, by go_num, by rw [HA.out.2.2], HA.out.1, trivial⟩
          case measure => have := HA.out.2.1; simp [intOf]; omega
      · have hlB : decide ((k : Int) < (s.size : Int)) = false := decide_eq_false (by omega)
        obtain rfl : k = s.size := by omega
        by_cases hbig : 1000000000000 < valTo s s.size
        · have bB : decide ((1000000000000 : Int) < (valTo s s.size : Int)) = true := decide_eq_true (by omega)
          have HR := Lib.hid (no.out (num_big (Nat.le_refl _) hbig))
          generalize valTo s s.size = V at *
          clear hall H1 hk no hgk hbig
          go_wp2
          go_ret2
          exact ⟨HR.out, rfl⟩
        · have bB : decide ((1000000000000 : Int) < (valTo s s.size : Int)) = false := decide_eq_false (by omega)
          have HR := Lib.hid (show Ending.returned (.tuple #[.int .i64 ((valTo s s.size : Nat) : Int), .bool true]) = Ending.returned (.tuple #[.int .i64 ((numV s : Nat) : Int), .bool (numOk s)]) from by
            obtain ⟨e1, e2⟩ := num_yes ⟨H1.out.1, H1.out.2, hall, by omega⟩
            rw [e1, e2])
          generalize valTo s s.size = V at *
          clear hall H1 hk no hgk hbig
          go_wp2
          go_ret2
          exact ⟨HR.out, rfl⟩
end Go.Proofs.Ytknpabijhmcjhaa
