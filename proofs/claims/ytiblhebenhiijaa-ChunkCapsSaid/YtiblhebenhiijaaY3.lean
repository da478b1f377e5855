/-
  Contract of the code's own names; Contracts of the document's own names; The document's shapes: which may be; Contract of the document's in; Which tips may be, by the document; Contracts of layer 3: bounds of sides; Contracts of layer 3: which shapes may be.
-/
import Derived.Test.YtiblhebenhiijaaChecked
import Derived.Lib.Hide
import Derived.KernelRfl
import Derived.Lib.ConvBytes
import Derived.Lib.MinMax
import Derived.Test.YtiblhebenhiijaaY1
namespace Go.Proofs.Ytiblhebenhiijaa
open Go.RowKit
theorem B.bytes {a w : World} (h : B a w) (e : TypeId) (s : ByteArray) : B a (Lib.bytesWorld w e s) :=
  ⟨⟨h.below.os, h.below.tape, h.below.output, by rw [Lib.bytesWorld_size]; have := h.below.size; omega, fun k hk => by
    rw [Lib.bytesWorld_at_old w e s k (Nat.lt_of_lt_of_le hk h.below.size)]
    exact h.below.block k hk⟩⟩
theorem named_any (s : ByteArray) (w : World) : Calls Try.prog 27 #[.string s] w fun e w' => e = .returned (.bool (nameS s)) ∧ B w w' := by
  by_cases h1 : s.size < 1
  · have h1B : decide ((s.size : Int) < 1) = true := decide_eq_true (by omega)
    rw [nameS_size (.inl h1)]
    clear h1
    go_enter Try.func27, Try.ntmps27
    go_wp2
    go_ret
    exact ⟨rfl, B.refl _⟩
  have h1B : decide ((s.size : Int) < 1) = false := decide_eq_false (by omega)
  by_cases h2 : 16 < s.size
  · have h2B : decide ((16 : Int) < (s.size : Int)) = true := decide_eq_true (by omega)
    rw [nameS_size (.inr h2)]
    clear h1 h2
    go_enter Try.func27, Try.ntmps27
    go_wp2
    go_ret
    exact ⟨rfl, B.refl _⟩
  have h2B : decide ((16 : Int) < (s.size : Int)) = false := decide_eq_false (by omega)
  have hconv := fun w => Lib.run_convert_string_bytes (P := Try.prog) w 9 58 5 s Try.underlying9 Try.underlying58 Try.underlying5
  have hcell : ∀ j, j < s.size → (Lib.bytesWorld w 5 s).cell? ⟨w.heap.size, j, none⟩ = some (.int .u8 ((byteAt s j : Nat) : Int)) := fun j hj => Lib.bytesWorld_cell w _ s j hj
  have hB : B w (Lib.bytesWorld w 5 s) := (B.refl w).bytes _ _
  have hgood := Lib.hid (fun h3 h => nameS_good (s := s) (by omega) (by omega) h3 h)
  have hbad := @nameS_bad s
  have hfst := @nameS_first s
  have HB := Lib.hid hB
  generalize nameS s = R at *
  clear hB
  go_enter Try.func27, Try.ntmps27
  go_wp2
  generalize Lib.bytesWorld w 5 s = W1 at *
  generalize w.heap.size = H at *
  go_loopw [18] (fun i wr => ∃ k : Nat, k ≤ s.size ∧ i = .int .i64 k ∧ (∀ j, j < k → (lowN (byteAt s j) || digN (byteAt s j)) = true) ∧ (0 < k → lowN (byteAt s 0) = true) ∧ W1 = wr) (fun i _ => s.size + 1 - (intOf i).toNat)
  case atStart => exact ⟨0, Nat.zero_le _, rfl, fun j hj => by omega, fun h => by omega, rfl⟩
  case round =>
    obtain ⟨k, hk, rfl, hall, h0, rfl⟩ := hrel
    by_cases hl : k < s.size
    · obtain ⟨b, eb⟩ : ∃ b, byteAt s k = b := ⟨_, rfl⟩
      have hlB : decide ((k : Int) < (s.size : Int)) = true := decide_eq_true (by omega)
      have hlI : (k : Int) < (s.size : Int) := by omega
      have wk1 : IntKind.i64.wrap ((k : Int) + 1) = (k : Int) + 1 := by rw [IntKind.wrap_i64]; omega
      have hc := hcell k hl
      have hb := hbad hl
      have hnext : (lowN (byteAt s k) || digN (byteAt s k)) = true → ∀ j, j < k + 1 → (lowN (byteAt s j) || digN (byteAt s j)) = true := fun h j hj => by
        by_cases c : j = k
        · subst c; exact h
        · exact hall j (by omega)
      have hz : (k = 0 → lowN b = true) → lowN (byteAt s 0) = true := fun h => by
        by_cases c : k = 0
        · subst c; rw [eb]; exact h rfl
        · exact h0 (by omega)
      have hf : k = 0 → lowN b = false → R = false := fun h1 h2 => by
        subst h1; exact hfst (by rw [eb]; exact h2)
      rw [eb] at hc hb hnext
      clear eb hall h0 hcell
      have five : b < 48 ∨ (48 ≤ b ∧ b ≤ 57) ∨ (58 ≤ b ∧ b ≤ 96) ∨ (97 ≤ b ∧ b ≤ 122) ∨ 122 < b := by omega
      rcases five with c | c | c | c | c
      · have d1 : decide (97 ≤ (b : Int)) = false := decide_eq_false (by omega)
        have d2 : decide ((b : Int) ≤ 122) = true := decide_eq_true (by omega)
        have d3 : decide (48 ≤ (b : Int)) = false := decide_eq_false (by omega)
        have d4 : decide ((b : Int) ≤ 57) = true := decide_eq_true (by omega)
        have l1 : lowN b = false := by unfold lowN; simp; omega
        have l2 : digN b = false := by unfold digN; simp; omega
        obtain rfl := hb (by rw [l1, l2]; rfl)
        clear hnext hz hf hb l1 l2
        go_wp2
        go_ret
        exact ⟨rfl, HB.out⟩
      · have d1 : decide (97 ≤ (b : Int)) = false := decide_eq_false (by omega)
        have d2 : decide ((b : Int) ≤ 122) = true := decide_eq_true (by omega)
        have d3 : decide (48 ≤ (b : Int)) = true := decide_eq_true (by omega)
        have d4 : decide ((b : Int) ≤ 57) = true := decide_eq_true (by omega)
        have l1 : lowN b = false := by unfold lowN; simp; omega
        have l2 : digN b = true := by unfold digN; simp; omega
        by_cases k0 : k = 0
        · obtain rfl := hf k0 l1
          subst k0
          clear hnext hz hf hb l1 l2
          go_wp2
          go_ret
          exact ⟨rfl, HB.out⟩
        · have k0B : ((k : Int) == 0) = false := by simp; omega
          have HA := Lib.hid (hnext (by rw [l1, l2]; rfl))
          have HZ := Lib.hid (hz (fun h => by first | exact l1 | omega))
          clear hnext hz hf hb l1 l2
          go_wp2
          go_roundw
          case rel => exact ⟨k + 1, by omega, by go_num, HA.out, fun _ => HZ.out, trivial⟩
          case measure => simp [intOf]; omega
      · have d1 : decide (97 ≤ (b : Int)) = false := decide_eq_false (by omega)
        have d2 : decide ((b : Int) ≤ 122) = true := decide_eq_true (by omega)
        have d3 : decide (48 ≤ (b : Int)) = true := decide_eq_true (by omega)
        have d4 : decide ((b : Int) ≤ 57) = false := decide_eq_false (by omega)
        have l1 : lowN b = false := by unfold lowN; simp; omega
        have l2 : digN b = false := by unfold digN; simp; omega
        obtain rfl := hb (by rw [l1, l2]; rfl)
        clear hnext hz hf hb l1 l2
        go_wp2
        go_ret
        exact ⟨rfl, HB.out⟩
      · have d1 : decide (97 ≤ (b : Int)) = true := decide_eq_true (by omega)
        have d2 : decide ((b : Int) ≤ 122) = true := decide_eq_true (by omega)
        have d3 : decide (48 ≤ (b : Int)) = true := decide_eq_true (by omega)
        have d4 : decide ((b : Int) ≤ 57) = false := decide_eq_false (by omega)
        have l1 : lowN b = true := by unfold lowN; simp; omega
        have l2 : digN b = false := by unfold digN; simp; omega
        have HA := Lib.hid (hnext (by rw [l1, l2]; rfl))
        have HZ := Lib.hid (hz (fun h => by first | exact l1 | omega))
        clear hnext hz hf hb l1 l2
        go_wp2
        go_roundw
        case rel => exact ⟨k + 1, by omega, by go_num, HA.out, fun _ => HZ.out, trivial⟩
        case measure => simp [intOf]; omega
      · have d1 : decide (97 ≤ (b : Int)) = true := decide_eq_true (by omega)
        have d2 : decide ((b : Int) ≤ 122) = false := decide_eq_false (by omega)
        have d3 : decide (48 ≤ (b : Int)) = true := decide_eq_true (by omega)
        have d4 : decide ((b : Int) ≤ 57) = false := decide_eq_false (by omega)
        have l1 : lowN b = false := by unfold lowN; simp; omega
        have l2 : digN b = false := by unfold digN; simp; omega
        obtain rfl := hb (by rw [l1, l2]; rfl)
        clear hnext hz hf hb l1 l2
        go_wp2
        go_ret
        exact ⟨rfl, HB.out⟩
    · have hlB : decide ((k : Int) < (s.size : Int)) = false := decide_eq_false (by omega)
      have HR := Lib.hid (hgood.out (h0 (by omega)) (fun i hi => hall i (by omega)))
      clear hall hgood hbad
      go_wp2
      go_ret
      exact ⟨by rw [HR.out]; rfl, HB.out⟩
end Go.Proofs.Ytiblhebenhiijaa

namespace Go.Proofs.Ytiblhebenhiijaa
open Go.RowKit
theorem r8lower_any (n : Nat) (w : World) : Calls Try.prog 29 #[.int .u8 (n : Int)] w fun e w' => e = .returned (.bool (lowN n)) ∧ w = w' := by
  unfold lowN
  by_cases c : 97 ≤ n
  · have cB : decide ((97 : Int) ≤ (n : Int)) = true := decide_eq_true (by omega)
    have e2 : decide (n ≤ 122) = decide ((n : Int) ≤ 122) := decide_eq_decide.2 (by omega)
    rw [decide_eq_true c, e2, Bool.true_and]
    go_enter Try.func29, Try.ntmps29
    go_wp2
    go_ret
    exact ⟨rfl, rfl⟩
  · have cB : decide ((97 : Int) ≤ (n : Int)) = false := decide_eq_false (by omega)
    rw [decide_eq_false c, Bool.false_and]
    go_enter Try.func29, Try.ntmps29
    go_wp2
    go_ret
    exact ⟨rfl, rfl⟩
theorem r8digit_any (n : Nat) (w : World) : Calls Try.prog 30 #[.int .u8 (n : Int)] w fun e w' => e = .returned (.bool (digN n)) ∧ w = w' := by
  unfold digN
  by_cases c : 48 ≤ n
  · have cB : decide ((48 : Int) ≤ (n : Int)) = true := decide_eq_true (by omega)
    have e2 : decide (n ≤ 57) = decide ((n : Int) ≤ 57) := decide_eq_decide.2 (by omega)
    rw [decide_eq_true c, e2, Bool.true_and]
    go_enter Try.func30, Try.ntmps30
    go_wp2
    go_ret
    exact ⟨rfl, rfl⟩
  · have cB : decide ((48 : Int) ≤ (n : Int)) = false := decide_eq_false (by omega)
    rw [decide_eq_false c, Bool.false_and]
    go_enter Try.func30, Try.ntmps30
    go_wp2
    go_ret
    exact ⟨rfl, rfl⟩
theorem r8name_any (s : ByteArray) (w : World) : Calls Try.prog 22 #[.string s] w fun e w' => e = .returned (.bool (nameS s)) ∧ w = w' := by
  by_cases h1 : s.size < 1
  · have h1B : decide ((s.size : Int) < 1) = true := decide_eq_true (by omega)
    rw [nameS_size (.inl h1)]
    clear h1
    go_enter Try.func22, Try.ntmps22
    go_wp2
    go_ret
    exact ⟨rfl, rfl⟩
  have h1B : decide ((s.size : Int) < 1) = false := decide_eq_false (by omega)
  by_cases h2 : 16 < s.size
  · have h2B : decide ((16 : Int) < (s.size : Int)) = true := decide_eq_true (by omega)
    rw [nameS_size (.inr h2)]
    clear h1 h2
    go_enter Try.func22, Try.ntmps22
    go_wp2
    go_ret
    exact ⟨rfl, rfl⟩
  have h2B : decide ((16 : Int) < (s.size : Int)) = false := decide_eq_false (by omega)
  have hz : (0 : Int) < (s.size : Int) := by omega
  have hg0 : ∀ h : 0 < s.size, (s[0]'h).toNat = byteAt s 0 := fun h => byteAt_get s 0 h
  have c0 := fun w => r8lower_any (byteAt s 0) w
  cases h3 : lowN (byteAt s 0)
  · rw [nameS_first h3]
    rw [h3] at c0
    generalize byteAt s 0 = b0 at *
    clear h3
    go_enter Try.func22, Try.ntmps22
    go_wp2_with fail
    refine (c0 _).mono ?_
    rintro e w1 ⟨rfl, rfl⟩
    go_wp2
    go_ret
    exact ⟨rfl, rfl⟩
  rw [h3] at c0
  have hgood := Lib.hid (fun h => nameS_good (s := s) (by omega) (by omega) h3 h)
  have hbad := @nameS_bad s
  generalize byteAt s 0 = b0 at *
  generalize nameS s = R at *
  clear h3 h1
  go_enter Try.func22, Try.ntmps22
  go_wp2_with fail
  refine (c0 _).mono ?_
  rintro e w1 ⟨rfl, rfl⟩
  clear c0 hg0
  go_wp2
  go_loopw [3] (fun i wr => ∃ k : Nat, k ≤ s.size ∧ i = .int .i64 k ∧ (∀ j, j < k → (lowN (byteAt s j) || digN (byteAt s j)) = true) ∧ w = wr) (fun i _ => s.size + 1 - (intOf i).toNat)
  case atStart => exact ⟨0, Nat.zero_le _, rfl, fun j hj => by omega, rfl⟩
  case round =>
    obtain ⟨k, hk, rfl, hall, rfl⟩ := hrel
    by_cases hl : k < s.size
    · have hlB : decide ((k : Int) < (s.size : Int)) = true := decide_eq_true (by omega)
      have hlI : (k : Int) < (s.size : Int) := by omega
      have hkB : (0 : Int) ≤ (k : Int) := by omega
      have wk1 : IntKind.i64.wrap ((k : Int) + 1) = (k : Int) + 1 := by rw [IntKind.wrap_i64]; omega
      have hg : ∀ h : k < s.size, (s[k]'h).toNat = byteAt s k := fun h => byteAt_get s k h
      have c1 := fun w => r8lower_any (byteAt s k) w
      have c2 := fun w => r8digit_any (byteAt s k) w
      have hb := hbad hl
      have hnext : (lowN (byteAt s k) || digN (byteAt s k)) = true → ∀ j, j < k + 1 → (lowN (byteAt s j) || digN (byteAt s j)) = true := fun h j hj => by
        by_cases c : j = k
        · subst c; exact h
        · exact hall j (by omega)
      clear hall
      generalize byteAt s k = b at *
      cases h4 : lowN b
      · cases h5 : digN b
        · rw [h4, h5] at hb
          obtain rfl := hb rfl
          rw [h4] at c1
          rw [h5] at c2
          clear hnext h4 h5
          go_wp2_with fail
          refine (c1 _).mono ?_
          rintro e w1 ⟨rfl, rfl⟩
          go_wp2_with fail
          refine (c2 _).mono ?_
          rintro e w1 ⟨rfl, rfl⟩
          go_wp2
          go_ret
          exact ⟨rfl, rfl⟩
        · have HA := Lib.hid (hnext (by rw [h4, h5]; rfl))
          rw [h4] at c1
          rw [h5] at c2
          clear hnext h4 h5 hb
          go_wp2_with fail
          refine (c1 _).mono ?_
          rintro e w1 ⟨rfl, rfl⟩
          go_wp2_with fail
          refine (c2 _).mono ?_
          rintro e w1 ⟨rfl, rfl⟩
          go_wp2
          go_roundw
          case rel => exact ⟨k + 1, by omega, by go_num, HA.out, trivial⟩
          case measure => simp [intOf]; omega
      · have HA := Lib.hid (hnext (by rw [h4]; rfl))
        rw [h4] at c1
        clear hnext h4 hb c2
        go_wp2_with fail
        refine (c1 _).mono ?_
        rintro e w1 ⟨rfl, rfl⟩
        go_wp2
        go_roundw
        case rel => exact ⟨k + 1, by omega, by go_num, HA.out, trivial⟩
        case measure => simp [intOf]; omega
    · have hlB : decide ((k : Int) < (s.size : Int)) = false := decide_eq_false (by omega)
      have HR := Lib.hid (hgood.out (fun i hi => hall i (by omega)))
      clear hall hgood hbad
      go_wp2
      go_ret
      exact ⟨by rw [HR.out]; rfl, rfl⟩
end Go.Proofs.Ytiblhebenhiijaa

namespace Go.Proofs.Ytiblhebenhiijaa
open Go.RowKit
theorem in_any (v a b : Int) (w : World) :
    Calls Try.prog 31 #[.int .i64 v, .int .i64 a, .int .i64 b] w fun e w' => e = .returned (.bool (inB v a b)) ∧ w = w' := by
  unfold inB
  have hb : decide (a ≤ v) = true ∨ decide (a ≤ v) = false := by cases decide (a ≤ v) <;> simp
  rcases hb with hb | hb
  all_goals
    rw [hb]
    go_enter Try.func31, Try.ntmps31
    go_wp2
    go_ret
    exact ⟨rfl, rfl⟩
set_option maxRecDepth 100000 in
set_option maxHeartbeats 2000000 in
theorem r3right_row (a : Addr) (cap : Nat) (l : List Sec) (h2 : l.length ≤ cap) (h3 : cap ≤ maxLen) (w : World) (h4 : ∀ i s, l[i]? = some s → s.I ∧ SecAt w (a.add (i * 6)) s) :
    Calls Try.prog 23 #[.slice (some a) l.length cap] w fun e w' => e = .returned (.bool (rightS l)) ∧ Q w w' := by
  unfold maxLen at h3
  have h5 : l.length ≤ 2 ^ 63 - 1 := Nat.le_trans h2 h3
  clear h2 h3
  by_cases n1 : l.length < 1
  · rw [rightS_short l n1]
    have n1B : decide ((l.length : Int) < 1) = true := decide_eq_true (by omega)
    clear h4
    go_enter Try.func23, Try.ntmps23
    go_wp2
    go_ret
    exact ⟨rfl, Q.refl w⟩
  have n1B : decide ((l.length : Int) < 1) = false := decide_eq_false (by omega)
  by_cases n2 : 4 < l.length
  · rw [rightS_long l n2]
    have n2B : decide ((4 : Int) < (l.length : Int)) = true := decide_eq_true (by omega)
    clear h4
    go_enter Try.func23, Try.ntmps23
    go_wp2
    go_ret
    exact ⟨rfl, Q.refl w⟩
  have n2B : decide ((4 : Int) < (l.length : Int)) = false := decide_eq_false (by omega)
  go_enter Try.func23, Try.ntmps23
  go_wp2
  go_loopw [3, 4] (fun hh i wr => ∃ (k : Nat), k ≤ l.length ∧ i = .int .i64 k ∧ hh = .int .i64 (hsumI l k) ∧ okTo l k = true ∧ Q w wr) (fun _ i _ => l.length - (intOf i).toNat)
  case atStart => exact ⟨0, Nat.zero_le _, rfl, rfl, rfl, Q.refl w⟩
  case round =>
    obtain ⟨k, hk, rfl, rfl, hok, hq⟩ := hrel
    obtain ⟨t1, t2⟩ := hsum_small l k hok
    have t3 : hsumI l k ≤ 240000 := by omega
    clear t2
    by_cases hl : k < l.length
    · have hlB : decide (k < l.length) = true := decide_eq_true hl
      have hg := List.getElem?_eq_getElem hl
      have hs := (h4 k _ hg).2.keep hq
      have hsu := hsumI_succ l k _ hg
      have hoku := okTo_succ l k _ hg hok
      have hbad := rightS_bad l k _ hg
      clear h4
      generalize l[k] = s at *
      generalize hsumI l k = t at *
      obtain ⟨f0, f1, f2, f3, f4, f5⟩ := hs
      obtain ⟨m, hm1⟩ : ∃ m, s.h.tmod 100 = m := ⟨_, rfl⟩
      have hsec := secOk_eq s m hm1
      have HS := Lib.hid hsu
      have HM := Lib.hid hg
      clear hsu hg
      have c1 := fun w => in_any s.a0 0 20000 w
      have c2 := fun w => in_any s.a1 1 20000 w
      have c3 := fun w => in_any s.b0 0 20000 w
      have c4 := fun w => in_any s.b1 1 20000 w
      have k1 : decide (s.h < 1) = true ∨ decide (s.h < 1) = false := by cases decide (s.h < 1) <;> simp
      rcases k1 with k1 | k1
      · have HB := Lib.hid (hbad (by rw [hsec]; simp [k1]))
        clear hbad hsec hoku
        go_wp2
        go_ret
        exact ⟨by rw [HB.out]; rfl, hq.alloc _ _⟩
      · have k2 : decide (60000 < s.h) = true ∨ decide (60000 < s.h) = false := by cases decide (60000 < s.h) <;> simp
        rcases k2 with k2 | k2
        · have HB := Lib.hid (hbad (by rw [hsec]; simp [k1, k2]))
          clear hbad hsec hoku
          go_wp2
          go_ret
          exact ⟨by rw [HB.out]; rfl, hq.alloc _ _⟩
        · have k3 : (m != 0) = true ∨ (m != 0) = false := by cases (m != 0) <;> simp
          rcases k3 with k3 | k3
          · have HB := Lib.hid (hbad (by rw [hsec]; simp [k1, k2, k3]))
            clear hbad hsec hoku
            go_wp2
            go_ret
            exact ⟨by rw [HB.out]; rfl, hq.alloc _ _⟩
          · have k4 : inB s.a0 0 20000 = true ∨ inB s.a0 0 20000 = false := by cases inB s.a0 0 20000 <;> simp
            rcases k4 with k4 | k4
            · rw [k4] at c1
              have k5 : inB s.a1 1 20000 = true ∨ inB s.a1 1 20000 = false := by cases inB s.a1 1 20000 <;> simp
              rcases k5 with k5 | k5
              · rw [k5] at c2
                have k6 : s.r = true ∨ s.r = false := by cases s.r <;> simp
                rcases k6 with k6 | k6
                · have k7 : (s.b0 != 0) = true ∨ (s.b0 != 0) = false := by cases (s.b0 != 0) <;> simp
                  rcases k7 with k7 | k7
                  · have HB := Lib.hid (hbad (by rw [hsec]; simp [k1, k2, k3, k4, k5, k6, k7]))
                    clear hbad hsec hoku
                    go_wp2_with fail
                    refine (c1 _).mono ?_
                    rintro e w1 ⟨rfl, rfl⟩
                    go_wp2_with fail
                    refine (c2 _).mono ?_
                    rintro e w1 ⟨rfl, rfl⟩
                    go_wp2
                    go_ret
                    exact ⟨by rw [HB.out]; rfl, hq.alloc _ _⟩
                  · have k8 : (s.b1 != 0) = true ∨ (s.b1 != 0) = false := by cases (s.b1 != 0) <;> simp
                    rcases k8 with k8 | k8
                    · have HB := Lib.hid (hbad (by rw [hsec]; simp [k1, k2, k3, k4, k5, k6, k7, k8]))
                      clear hbad hsec hoku
                      go_wp2_with fail
                      refine (c1 _).mono ?_
                      rintro e w1 ⟨rfl, rfl⟩
                      go_wp2_with fail
                      refine (c2 _).mono ?_
                      rintro e w1 ⟨rfl, rfl⟩
                      go_wp2
                      go_ret
                      exact ⟨by rw [HB.out]; rfl, hq.alloc _ _⟩
                    · replace hoku := hoku (by rw [hsec]; simp [k1, k2, k3, k4, k5, k6, k7, k8])
                      obtain ⟨z1, z2⟩ := secOk_h s (by rw [hsec]; simp [k1, k2, k3, k4, k5, k6, k7, k8])
                      clear hbad hsec
                      have HO := Lib.hid hoku
                      clear hoku
                      go_wp2_with fail
                      refine (c1 _).mono ?_
                      rintro e w1 ⟨rfl, rfl⟩
                      go_wp2_with fail
                      refine (c2 _).mono ?_
                      rintro e w1 ⟨rfl, rfl⟩
                      go_wp2
                      go_roundw
                      case rel => exact ⟨k + 1, by omega, by go_num, by rw [HS.out], HO.out, hq.alloc _ _⟩
                      case measure => simp [intOf]; omega
                · have k9 : inB s.b0 0 20000 = true ∨ inB s.b0 0 20000 = false := by cases inB s.b0 0 20000 <;> simp
                  rcases k9 with k9 | k9
                  · rw [k9] at c3
                    have ka : inB s.b1 1 20000 = true ∨ inB s.b1 1 20000 = false := by cases inB s.b1 1 20000 <;> simp
                    rcases ka with ka | ka
                    · rw [ka] at c4
                      replace hoku := hoku (by rw [hsec]; simp [k1, k2, k3, k4, k5, k6, k9, ka])
                      obtain ⟨z1, z2⟩ := secOk_h s (by rw [hsec]; simp [k1, k2, k3, k4, k5, k6, k9, ka])
                      clear hbad hsec
                      have HO := Lib.hid hoku
                      clear hoku
                      go_wp2_with fail
                      refine (c1 _).mono ?_
                      rintro e w1 ⟨rfl, rfl⟩
                      go_wp2_with fail
                      refine (c2 _).mono ?_
                      rintro e w1 ⟨rfl, rfl⟩
                      go_wp2_with fail
                      refine (c3 _).mono ?_
                      rintro e w1 ⟨rfl, rfl⟩
                      go_wp2_with fail
                      refine (c4 _).mono ?_
                      rintro e w1 ⟨rfl, rfl⟩
                      go_wp2
                      go_roundw
                      case rel => exact ⟨k + 1, by omega, by go_num, by rw [HS.out], HO.out, hq.alloc _ _⟩
                      case measure => simp [intOf]; omega
                    · rw [ka] at c4
                      have HB := Lib.hid (hbad (by rw [hsec]; simp [k1, k2, k3, k4, k5, k6, k9, ka]))
                      clear hbad hsec hoku
                      go_wp2_with fail
                      refine (c1 _).mono ?_
                      rintro e w1 ⟨rfl, rfl⟩
                      go_wp2_with fail
                      refine (c2 _).mono ?_
                      rintro e w1 ⟨rfl, rfl⟩
                      go_wp2_with fail
                      refine (c3 _).mono ?_
                      rintro e w1 ⟨rfl, rfl⟩
                      go_wp2_with fail
                      refine (c4 _).mono ?_
                      rintro e w1 ⟨rfl, rfl⟩
                      go_wp2
                      go_ret
                      exact ⟨by rw [HB.out]; rfl, hq.alloc _ _⟩
                  · rw [k9] at c3
                    have HB := Lib.hid (hbad (by rw [hsec]; simp [k1, k2, k3, k4, k5, k6, k9]))
                    clear hbad hsec hoku
                    go_wp2_with fail
                    refine (c1 _).mono ?_
                    rintro e w1 ⟨rfl, rfl⟩
                    go_wp2_with fail
                    refine (c2 _).mono ?_
                    rintro e w1 ⟨rfl, rfl⟩
                    go_wp2_with fail
                    refine (c3 _).mono ?_
                    rintro e w1 ⟨rfl, rfl⟩
                    go_wp2
                    go_ret
                    exact ⟨by rw [HB.out]; rfl, hq.alloc _ _⟩
              · rw [k5] at c2
                have HB := Lib.hid (hbad (by rw [hsec]; simp [k1, k2, k3, k4, k5]))
                clear hbad hsec hoku
                go_wp2_with fail
                refine (c1 _).mono ?_
                rintro e w1 ⟨rfl, rfl⟩
                go_wp2_with fail
                refine (c2 _).mono ?_
                rintro e w1 ⟨rfl, rfl⟩
                go_wp2
                go_ret
                exact ⟨by rw [HB.out]; rfl, hq.alloc _ _⟩
            · rw [k4] at c1
              have HB := Lib.hid (hbad (by rw [hsec]; simp [k1, k2, k3, k4]))
              clear hbad hsec hoku
              go_wp2_with fail
              refine (c1 _).mono ?_
              rintro e w1 ⟨rfl, rfl⟩
              go_wp2
              go_ret
              exact ⟨by rw [HB.out]; rfl, hq.alloc _ _⟩
    · have hlB : decide (k < l.length) = false := decide_eq_false hl
      obtain rfl : k = l.length := by omega
      have HE := Lib.hid (rightS_end l (by omega) (by omega) hok)
      clear h4 hok
      go_wp2
      go_ret
      exact ⟨by rw [HE.out]; rfl, hq⟩
theorem r3right_any (v : Value) (l : List Sec) (w : World) (hv : IsSecs w v l) :
    Calls Try.prog 23 #[v] w fun e w' => e = .returned (.bool (rightS l)) ∧ Q w w' := by
  rcases hv with ⟨rfl, rfl⟩ | ⟨a, cap, rfl, h2, h3, h4⟩
  · rw [rightS_short [] (by simp)]
    go_enter Try.func23, Try.ntmps23
    go_wp2
    go_ret
    exact ⟨rfl, Q.refl w⟩
  · exact r3right_row a cap l h2 h3 w h4
end Go.Proofs.Ytiblhebenhiijaa

namespace Go.Proofs.Ytiblhebenhiijaa
open Go.RowKit
theorem r8in_any (v a b : Int) (w : World) :
    Calls Try.prog 24 #[.int .i64 v, .int .i64 a, .int .i64 b] w fun e w' => e = .returned (.bool (inB v a b)) ∧ w = w' := by
  unfold inB
  have hb : decide (a ≤ v) = true ∨ decide (a ≤ v) = false := by cases decide (a ≤ v) <;> simp
  rcases hb with hb | hb
  all_goals
    go_enter Try.func24, Try.ntmps24
    go_wp2
    go_ret
    exact ⟨by simp [hb], rfl⟩
end Go.Proofs.Ytiblhebenhiijaa

namespace Go.Proofs.Ytiblhebenhiijaa
open Go.RowKit
def tipB (s : ByteArray) (cap filt err : Int) (l : List Sec) : Bool := rightS l && inB cap 1 20000000 && inB filt 1 60000 && inB err 0 10000 && nameS s
theorem r8tipright_any (s : ByteArray) (cap filt err : Int) (v : Value) (l : List Sec) (w : World) (hv : IsSecs w v l) :
    Calls Try.prog 17 #[.agg #[.string s, .int .i64 cap, .int .i64 filt, .int .i64 err, v]] w fun e w' => e = .returned (.bool (tipB s cap filt err l)) ∧ B w w' := by
  obtain ⟨ao, nn, cc, rfl⟩ := hv.form
  have HV := Lib.hid hv
  clear hv
  have cl := fun w h => r3right_any (.slice ao nn cc) l w h
  have cc_ := fun w => r8in_any cap 1 20000000 w
  have cf := fun w => r8in_any filt 1 60000 w
  have ce := fun w => r8in_any err 0 10000 w
  have cn := fun w => r8name_any s w
  unfold tipB
  have kc : ∀ w', B (w.alloc (.cells #[.string s, .int .i64 cap, .int .i64 filt, .int .i64 err, .slice ao nn cc] 24)) w' → B w w' := fun w' q => ((B.refl w).alloc _ _).trans q
  generalize rightS l = bl at *
  generalize inB cap 1 20000000 = bc at *
  generalize inB filt 1 60000 = bf at *
  generalize inB err 0 10000 = be at *
  generalize nameS s = bn at *
  cases bn
  · go_enter Try.func17, Try.ntmps17
    go_wp2_with fail
    have k0 : (w.alloc (.cells #[.string s, .int .i64 cap, .int .i64 filt, .int .i64 err, .slice ao nn cc] 24)).cell? ⟨w.heap.size, 0, none⟩ = some (.string s) := by simp [go_sem]
    have k1 : (w.alloc (.cells #[.string s, .int .i64 cap, .int .i64 filt, .int .i64 err, .slice ao nn cc] 24)).cell? ⟨w.heap.size, 1, none⟩ = some (.int .i64 cap) := by simp [go_sem]
    have k2 : (w.alloc (.cells #[.string s, .int .i64 cap, .int .i64 filt, .int .i64 err, .slice ao nn cc] 24)).cell? ⟨w.heap.size, 2, none⟩ = some (.int .i64 filt) := by simp [go_sem]
    have k3 : (w.alloc (.cells #[.string s, .int .i64 cap, .int .i64 filt, .int .i64 err, .slice ao nn cc] 24)).cell? ⟨w.heap.size, 3, none⟩ = some (.int .i64 err) := by simp [go_sem]
    have k4 : (w.alloc (.cells #[.string s, .int .i64 cap, .int .i64 filt, .int .i64 err, .slice ao nn cc] 24)).cell? ⟨w.heap.size, 4, none⟩ = some (.slice ao nn cc) := by simp [go_sem]
    have hv := HV.out.keepB ((B.refl w).alloc #[.string s, .int .i64 cap, .int .i64 filt, .int .i64 err, .slice ao nn cc] 24)
    have g := (B.refl w).alloc #[.string s, .int .i64 cap, .int .i64 filt, .int .i64 err, .slice ao nn cc] 24
    generalize w.alloc (.cells #[.string s, .int .i64 cap, .int .i64 filt, .int .i64 err, .slice ao nn cc] 24) = W at *
    refine (cn _).mono ?_
    rintro e w1 ⟨rfl, rfl⟩
    go_wp2
    go_ret
    exact ⟨by simp, g⟩
  cases bl
  · go_enter Try.func17, Try.ntmps17
    go_wp2_with fail
    have k0 : (w.alloc (.cells #[.string s, .int .i64 cap, .int .i64 filt, .int .i64 err, .slice ao nn cc] 24)).cell? ⟨w.heap.size, 0, none⟩ = some (.string s) := by simp [go_sem]
    have k1 : (w.alloc (.cells #[.string s, .int .i64 cap, .int .i64 filt, .int .i64 err, .slice ao nn cc] 24)).cell? ⟨w.heap.size, 1, none⟩ = some (.int .i64 cap) := by simp [go_sem]
    have k2 : (w.alloc (.cells #[.string s, .int .i64 cap, .int .i64 filt, .int .i64 err, .slice ao nn cc] 24)).cell? ⟨w.heap.size, 2, none⟩ = some (.int .i64 filt) := by simp [go_sem]
    have k3 : (w.alloc (.cells #[.string s, .int .i64 cap, .int .i64 filt, .int .i64 err, .slice ao nn cc] 24)).cell? ⟨w.heap.size, 3, none⟩ = some (.int .i64 err) := by simp [go_sem]
    have k4 : (w.alloc (.cells #[.string s, .int .i64 cap, .int .i64 filt, .int .i64 err, .slice ao nn cc] 24)).cell? ⟨w.heap.size, 4, none⟩ = some (.slice ao nn cc) := by simp [go_sem]
    have hv := HV.out.keepB ((B.refl w).alloc #[.string s, .int .i64 cap, .int .i64 filt, .int .i64 err, .slice ao nn cc] 24)
    have g := (B.refl w).alloc #[.string s, .int .i64 cap, .int .i64 filt, .int .i64 err, .slice ao nn cc] 24
    generalize w.alloc (.cells #[.string s, .int .i64 cap, .int .i64 filt, .int .i64 err, .slice ao nn cc] 24) = W at *
    refine (cn _).mono ?_
    rintro e w1 ⟨rfl, rfl⟩
    go_wp2_with fail
    refine (cl _ hv).mono ?_
    rintro e w3 ⟨rfl, q⟩
    replace q := q.b
    replace k0 := q.keep k0
    replace k1 := q.keep k1
    replace k2 := q.keep k2
    replace k3 := q.keep k3
    replace k4 := q.keep k4
    replace hv := hv.keepB q
    replace g := g.trans q
    clear q
    go_wp2
    go_ret
    exact ⟨by simp, g⟩
  cases bc
  · go_enter Try.func17, Try.ntmps17
    go_wp2_with fail
    have k0 : (w.alloc (.cells #[.string s, .int .i64 cap, .int .i64 filt, .int .i64 err, .slice ao nn cc] 24)).cell? ⟨w.heap.size, 0, none⟩ = some (.string s) := by simp [go_sem]
    have k1 : (w.alloc (.cells #[.string s, .int .i64 cap, .int .i64 filt, .int .i64 err, .slice ao nn cc] 24)).cell? ⟨w.heap.size, 1, none⟩ = some (.int .i64 cap) := by simp [go_sem]
    have k2 : (w.alloc (.cells #[.string s, .int .i64 cap, .int .i64 filt, .int .i64 err, .slice ao nn cc] 24)).cell? ⟨w.heap.size, 2, none⟩ = some (.int .i64 filt) := by simp [go_sem]
    have k3 : (w.alloc (.cells #[.string s, .int .i64 cap, .int .i64 filt, .int .i64 err, .slice ao nn cc] 24)).cell? ⟨w.heap.size, 3, none⟩ = some (.int .i64 err) := by simp [go_sem]
    have k4 : (w.alloc (.cells #[.string s, .int .i64 cap, .int .i64 filt, .int .i64 err, .slice ao nn cc] 24)).cell? ⟨w.heap.size, 4, none⟩ = some (.slice ao nn cc) := by simp [go_sem]
    have hv := HV.out.keepB ((B.refl w).alloc #[.string s, .int .i64 cap, .int .i64 filt, .int .i64 err, .slice ao nn cc] 24)
    have g := (B.refl w).alloc #[.string s, .int .i64 cap, .int .i64 filt, .int .i64 err, .slice ao nn cc] 24
    generalize w.alloc (.cells #[.string s, .int .i64 cap, .int .i64 filt, .int .i64 err, .slice ao nn cc] 24) = W at *
    refine (cn _).mono ?_
    rintro e w1 ⟨rfl, rfl⟩
    go_wp2_with fail
    refine (cl _ hv).mono ?_
    rintro e w3 ⟨rfl, q⟩
    replace q := q.b
    replace k0 := q.keep k0
    replace k1 := q.keep k1
    replace k2 := q.keep k2
    replace k3 := q.keep k3
    replace k4 := q.keep k4
    replace hv := hv.keepB q
    replace g := g.trans q
    clear q
    go_wp2_with fail
    refine (cc_ _).mono ?_
    rintro e w1 ⟨rfl, rfl⟩
    go_wp2
    go_ret
    exact ⟨by simp, g⟩
  cases bf
  · go_enter Try.func17, Try.ntmps17
    go_wp2_with fail
    have k0 : (w.alloc (.cells #[.string s, .int .i64 cap, .int .i64 filt, .int .i64 err, .slice ao nn cc] 24)).cell? ⟨w.heap.size, 0, none⟩ = some (.string s) := by simp [go_sem]
    have k1 : (w.alloc (.cells #[.string s, .int .i64 cap, .int .i64 filt, .int .i64 err, .slice ao nn cc] 24)).cell? ⟨w.heap.size, 1, none⟩ = some (.int .i64 cap) := by simp [go_sem]
    have k2 : (w.alloc (.cells #[.string s, .int .i64 cap, .int .i64 filt, .int .i64 err, .slice ao nn cc] 24)).cell? ⟨w.heap.size, 2, none⟩ = some (.int .i64 filt) := by simp [go_sem]
    have k3 : (w.alloc (.cells #[.string s, .int .i64 cap, .int .i64 filt, .int .i64 err, .slice ao nn cc] 24)).cell? ⟨w.heap.size, 3, none⟩ = some (.int .i64 err) := by simp [go_sem]
    have k4 : (w.alloc (.cells #[.string s, .int .i64 cap, .int .i64 filt, .int .i64 err, .slice ao nn cc] 24)).cell? ⟨w.heap.size, 4, none⟩ = some (.slice ao nn cc) := by simp [go_sem]
    have hv := HV.out.keepB ((B.refl w).alloc #[.string s, .int .i64 cap, .int .i64 filt, .int .i64 err, .slice ao nn cc] 24)
    have g := (B.refl w).alloc #[.string s, .int .i64 cap, .int .i64 filt, .int .i64 err, .slice ao nn cc] 24
    generalize w.alloc (.cells #[.string s, .int .i64 cap, .int .i64 filt, .int .i64 err, .slice ao nn cc] 24) = W at *
    refine (cn _).mono ?_
    rintro e w1 ⟨rfl, rfl⟩
    go_wp2_with fail
    refine (cl _ hv).mono ?_
    rintro e w3 ⟨rfl, q⟩
    replace q := q.b
    replace k0 := q.keep k0
    replace k1 := q.keep k1
    replace k2 := q.keep k2
    replace k3 := q.keep k3
    replace k4 := q.keep k4
    replace hv := hv.keepB q
    replace g := g.trans q
    clear q
    go_wp2_with fail
    refine (cc_ _).mono ?_
    rintro e w1 ⟨rfl, rfl⟩
    go_wp2_with fail
    refine (cf _).mono ?_
    rintro e w1 ⟨rfl, rfl⟩
    go_wp2
    go_ret
    exact ⟨by simp, g⟩
  cases be
  · go_enter Try.func17, Try.ntmps17
    go_wp2_with fail
    have k0 : (w.alloc (.cells #[.string s, .int .i64 cap, .int .i64 filt, .int .i64 err, .slice ao nn cc] 24)).cell? ⟨w.heap.size, 0, none⟩ = some (.string s) := by simp [go_sem]
    have k1 : (w.alloc (.cells #[.string s, .int .i64 cap, .int .i64 filt, .int .i64 err, .slice ao nn cc] 24)).cell? ⟨w.heap.size, 1, none⟩ = some (.int .i64 cap) := by simp [go_sem]
    have k2 : (w.alloc (.cells #[.string s, .int .i64 cap, .int .i64 filt, .int .i64 err, .slice ao nn cc] 24)).cell? ⟨w.heap.size, 2, none⟩ = some (.int .i64 filt) := by simp [go_sem]
    have k3 : (w.alloc (.cells #[.string s, .int .i64 cap, .int .i64 filt, .int .i64 err, .slice ao nn cc] 24)).cell? ⟨w.heap.size, 3, none⟩ = some (.int .i64 err) := by simp [go_sem]
    have k4 : (w.alloc (.cells #[.string s, .int .i64 cap, .int .i64 filt, .int .i64 err, .slice ao nn cc] 24)).cell? ⟨w.heap.size, 4, none⟩ = some (.slice ao nn cc) := by simp [go_sem]
    have hv := HV.out.keepB ((B.refl w).alloc #[.string s, .int .i64 cap, .int .i64 filt, .int .i64 err, .slice ao nn cc] 24)
    have g := (B.refl w).alloc #[.string s, .int .i64 cap, .int .i64 filt, .int .i64 err, .slice ao nn cc] 24
    generalize w.alloc (.cells #[.string s, .int .i64 cap, .int .i64 filt, .int .i64 err, .slice ao nn cc] 24) = W at *
    refine (cn _).mono ?_
    rintro e w1 ⟨rfl, rfl⟩
    go_wp2_with fail
    refine (cl _ hv).mono ?_
    rintro e w3 ⟨rfl, q⟩
    replace q := q.b
    replace k0 := q.keep k0
    replace k1 := q.keep k1
    replace k2 := q.keep k2
    replace k3 := q.keep k3
    replace k4 := q.keep k4
    replace hv := hv.keepB q
    replace g := g.trans q
    clear q
    go_wp2_with fail
    refine (cc_ _).mono ?_
    rintro e w1 ⟨rfl, rfl⟩
    go_wp2_with fail
    refine (cf _).mono ?_
    rintro e w1 ⟨rfl, rfl⟩
    go_wp2_with fail
    refine (ce _).mono ?_
    rintro e w1 ⟨rfl, rfl⟩
    go_wp2
    go_ret
    exact ⟨by simp, g⟩
  · go_enter Try.func17, Try.ntmps17
    go_wp2_with fail
    have k0 : (w.alloc (.cells #[.string s, .int .i64 cap, .int .i64 filt, .int .i64 err, .slice ao nn cc] 24)).cell? ⟨w.heap.size, 0, none⟩ = some (.string s) := by simp [go_sem]
    have k1 : (w.alloc (.cells #[.string s, .int .i64 cap, .int .i64 filt, .int .i64 err, .slice ao nn cc] 24)).cell? ⟨w.heap.size, 1, none⟩ = some (.int .i64 cap) := by simp [go_sem]
    have k2 : (w.alloc (.cells #[.string s, .int .i64 cap, .int .i64 filt, .int .i64 err, .slice ao nn cc] 24)).cell? ⟨w.heap.size, 2, none⟩ = some (.int .i64 filt) := by simp [go_sem]
    have k3 : (w.alloc (.cells #[.string s, .int .i64 cap, .int .i64 filt, .int .i64 err, .slice ao nn cc] 24)).cell? ⟨w.heap.size, 3, none⟩ = some (.int .i64 err) := by simp [go_sem]
    have k4 : (w.alloc (.cells #[.string s, .int .i64 cap, .int .i64 filt, .int .i64 err, .slice ao nn cc] 24)).cell? ⟨w.heap.size, 4, none⟩ = some (.slice ao nn cc) := by simp [go_sem]
    have hv := HV.out.keepB ((B.refl w).alloc #[.string s, .int .i64 cap, .int .i64 filt, .int .i64 err, .slice ao nn cc] 24)
    have g := (B.refl w).alloc #[.string s, .int .i64 cap, .int .i64 filt, .int .i64 err, .slice ao nn cc] 24
    generalize w.alloc (.cells #[.string s, .int .i64 cap, .int .i64 filt, .int .i64 err, .slice ao nn cc] 24) = W at *
    refine (cn _).mono ?_
    rintro e w1 ⟨rfl, rfl⟩
    go_wp2_with fail
    refine (cl _ hv).mono ?_
    rintro e w3 ⟨rfl, q⟩
    replace q := q.b
    replace k0 := q.keep k0
    replace k1 := q.keep k1
    replace k2 := q.keep k2
    replace k3 := q.keep k3
    replace k4 := q.keep k4
    replace hv := hv.keepB q
    replace g := g.trans q
    clear q
    go_wp2_with fail
    refine (cc_ _).mono ?_
    rintro e w1 ⟨rfl, rfl⟩
    go_wp2_with fail
    refine (cf _).mono ?_
    rintro e w1 ⟨rfl, rfl⟩
    go_wp2_with fail
    refine (ce _).mono ?_
    rintro e w1 ⟨rfl, rfl⟩
    go_wp2
    go_ret
    exact ⟨by simp, g⟩
end Go.Proofs.Ytiblhebenhiijaa

namespace Go.Proofs.Ytiblhebenhiijaa
open Go.RowKit
/-- Its sides are bounded. -/
def boundS (s : Sec) : Bool := inB s.a0 0 20000 && inB s.b0 0 20000 && inB s.a1 0 20000 && inB s.b1 0 20000
def sideNo (s : Sec) (k : Nat) : Int := [s.a0, s.b0, s.a1, s.b1].getD k 0
theorem inB_ways (x : Int) : (inB x 0 20000 = true ∧ decide (x < 0) = false ∧ decide (20000 < x) = false) ∨ (inB x 0 20000 = false ∧ decide (x < 0) = true) ∨ (inB x 0 20000 = false ∧ decide (x < 0) = false ∧ decide (20000 < x) = true) := by
  unfold inB
  by_cases h1 : x < 0
  · exact .inr (.inl ⟨by simp; omega, decide_eq_true h1⟩)
  · by_cases h2 : 20000 < x
    · exact .inr (.inr ⟨by simp; omega, decide_eq_false h1, decide_eq_true h2⟩)
    · exact .inl ⟨by simp; omega, decide_eq_false h1, decide_eq_false h2⟩
theorem boundS_no (s : Sec) (k : Nat) (hk : k < 4) (h : inB (sideNo s k) 0 20000 = false) : boundS s = false := by
  unfold boundS
  match k, hk with
  | 0, _ => have h' : inB s.a0 0 20000 = false := h; rw [h']; simp
  | 1, _ => have h' : inB s.b0 0 20000 = false := h; rw [h']; simp
  | 2, _ => have h' : inB s.a1 0 20000 = false := h; rw [h']; simp
  | 3, _ => have h' : inB s.b1 0 20000 = false := h; rw [h']; simp
theorem boundS_yes (s : Sec) (h : ∀ j, j < 4 → inB (sideNo s j) 0 20000 = true) : boundS s = true := by
  unfold boundS
  have h0 : inB s.a0 0 20000 = true := h 0 (by omega)
  have h1 : inB s.b0 0 20000 = true := h 1 (by omega)
  have h2 : inB s.a1 0 20000 = true := h 2 (by omega)
  have h3 : inB s.b1 0 20000 = true := h 3 (by omega)
  rw [h0, h1, h2, h3]; rfl
/-- A place of an array of four numbers. -/
theorem arr4_get (x : Nat → Int) (k : Nat) (hk : k < 4) (w : World) : (Instr.index 67 (Value.agg #[.int .i64 (x 0), .int .i64 (x 1), .int .i64 (x 2), .int .i64 (x 3)]) (Value.int .i64 (k : Int))).run Try.prog w = .ok (.int .i64 (x k)) w := by
  have hu : Try.prog.underlying 67 = some (.array 4 2) := by kernel_rfl
  match k, hk with
  | 0, _ => simp [Instr.index, run_underlying hu, asIntOf, part, go_sem]
  | 1, _ => simp [Instr.index, run_underlying hu, asIntOf, part, go_sem]
  | 2, _ => simp [Instr.index, run_underlying hu, asIntOf, part, go_sem]
  | 3, _ => simp [Instr.index, run_underlying hu, asIntOf, part, go_sem]
set_option maxHeartbeats 1000000 in
theorem bounded_any (r : Bool) (h a0 b0 a1 b1 : Int) (w : World) :
    Calls Try.prog 34 #[.agg #[.bool r, .int .i64 h, .int .i64 a0, .int .i64 b0, .int .i64 a1, .int .i64 b1]] w fun e w' => e = .returned (.bool (boundS ⟨r, h, a0, b0, a1, b1⟩)) ∧ Q w w' := by
  have hno := boundS_no ⟨r, h, a0, b0, a1, b1⟩
  have hyes := boundS_yes ⟨r, h, a0, b0, a1, b1⟩
  have hg := fun k hk w => arr4_get (sideNo ⟨r, h, a0, b0, a1, b1⟩) k hk w
  change ∀ k : Nat, k < 4 → ∀ w : World, (Instr.index 67 (Value.agg #[.int .i64 a0, .int .i64 b0, .int .i64 a1, .int .i64 b1]) (Value.int .i64 (k : Int))).run Try.prog w = .ok (.int .i64 (sideNo ⟨r, h, a0, b0, a1, b1⟩ k)) w at hg
  generalize hB : boundS ⟨r, h, a0, b0, a1, b1⟩ = B0 at *
  clear hB
  go_enter Try.func34, Try.ntmps34
  go_wp2
  have hq := (Q.refl w).alloc #[.bool r, .int .i64 h, .int .i64 a0, .int .i64 b0, .int .i64 a1, .int .i64 b1] 50
  generalize w.alloc _ = W1 at *
  go_loop [14] (fun i => ∃ k : Nat, k ≤ 4 ∧ i = .int .i64 k ∧ ∀ j, j < k → inB (sideNo ⟨r, h, a0, b0, a1, b1⟩ j) 0 20000 = true) (fun i => 4 - (intOf i).toNat)
  case atStart => exact ⟨0, Nat.zero_le _, rfl, fun j hj => absurd hj (by omega)⟩
  case round =>
    obtain ⟨k, hk, rfl, hall⟩ := hrel
    by_cases hl : k < 4
    · have hlB : decide ((k : Int) < 4) = true := decide_eq_true (by omega)
      have ho := hno k hl
      have hx := hg k hl
      have hw := inB_ways (sideNo ⟨r, h, a0, b0, a1, b1⟩ k)
      have hn : inB (sideNo ⟨r, h, a0, b0, a1, b1⟩ k) 0 20000 = true → ∀ j, j < k + 1 → inB (sideNo ⟨r, h, a0, b0, a1, b1⟩ j) 0 20000 = true := fun hk j hj => by
        by_cases e : j = k
        · rw [e]; exact hk
        · exact hall j (by omega)
      clear hall hno hyes hg
      rcases hw with ⟨e0, e1, e2⟩ | ⟨e0, e1⟩ | ⟨e0, e1, e2⟩
      · have HN := Lib.hid (hn e0)
        clear hn ho
        go_wp2
        go_round
        case rel => exact ⟨k + 1, by omega, by go_num, HN.out⟩
        case measure => simp [intOf]; omega
      · have HO := Lib.hid (ho e0)
        clear hn ho
        go_wp2
        go_ret
        exact ⟨by rw [HO.out]; rfl, hq⟩
      · have HO := Lib.hid (ho e0)
        clear hn ho
        go_wp2
        go_ret
        exact ⟨by rw [HO.out]; rfl, hq⟩
    · have hlB : decide ((k : Int) < 4) = false := decide_eq_false (by omega)
      obtain rfl : k = 4 := by omega
      have HY := Lib.hid (hyes hall)
      clear hno hyes hg hall
      go_wp2
      go_ret
      exact ⟨by rw [HY.out]; rfl, hq⟩
end Go.Proofs.Ytiblhebenhiijaa

namespace Go.Proofs.Ytiblhebenhiijaa
open Go.RowKit
def RightC : Prop := ∀ (v : Value) (l : List Sec) (w : World), IsSecs w v l → Calls Try.prog 25 #[v] w fun e w' => e = .returned (.bool (rightS l)) ∧ B w w'
/-- Its sides are those of a piece. -/
def soundS (s : Sec) : Bool := boundS s && (s.a1 != 0) && (if s.r then (s.b0 == 0) && (s.b1 == 0) else decide (0 < s.b1))
set_option maxHeartbeats 1000000 in
theorem sound_any (r : Bool) (h a0 b0 a1 b1 : Int) (w : World) :
    Calls Try.prog 32 #[.agg #[.bool r, .int .i64 h, .int .i64 a0, .int .i64 b0, .int .i64 a1, .int .i64 b1]] w fun e w' => e = .returned (.bool (soundS ⟨r, h, a0, b0, a1, b1⟩)) ∧ Q w w' := by
  have cB := fun w => bounded_any r h a0 b0 a1 b1 w
  have hS : soundS ⟨r, h, a0, b0, a1, b1⟩ = (boundS ⟨r, h, a0, b0, a1, b1⟩ && (a1 != 0) && (if r then (b0 == 0) && (b1 == 0) else decide (0 < b1))) := rfl
  generalize boundS ⟨r, h, a0, b0, a1, b1⟩ = B0 at *
  rw [hS]
  clear hS
  have hA : ((a1 == 0) = true ∧ (a1 != 0) = false) ∨ ((a1 == 0) = false ∧ (a1 != 0) = true) := by by_cases a1 = 0 <;> simp [*]
  have hZ : (b0 == 0) = true ∨ (b0 == 0) = false := by cases (b0 == 0) <;> simp
  cases B0
  · simp only [Bool.false_and]
    go_enter Try.func32, Try.ntmps32
    go_wp2_with fail
    refine (cB _).mono ?_
    rintro e w1 ⟨rfl, g⟩
    replace g := ((Q.refl w).alloc _ _).trans g
    go_wp2
    go_ret
    exact ⟨rfl, g⟩
  rcases hA with ⟨a2, a3⟩ | ⟨a2, a3⟩
  · rw [a3]
    simp only [Bool.false_and, Bool.and_false]
    go_enter Try.func32, Try.ntmps32
    go_wp2_with fail
    refine (cB _).mono ?_
    rintro e w1 ⟨rfl, g⟩
    have z4 := g.keep (p := ⟨w.heap.size, 4, none⟩) (v := .int .i64 a1) (by simp [go_sem])
    replace g := ((Q.refl w).alloc _ _).trans g
    go_wp2
    go_ret
    exact ⟨rfl, g⟩
  rw [a3]
  cases r
  · go_enter Try.func32, Try.ntmps32
    go_wp2_with fail
    refine (cB _).mono ?_
    rintro e w1 ⟨rfl, g⟩
    have z0 := g.keep (p := ⟨w.heap.size, 0, none⟩) (v := .bool false) (by simp [go_sem])
    have z1 := g.keep (p := ⟨w.heap.size, 1, none⟩) (v := .int .i64 h) (by simp [go_sem])
    have z2 := g.keep (p := ⟨w.heap.size, 2, none⟩) (v := .int .i64 a0) (by simp [go_sem])
    have z3 := g.keep (p := ⟨w.heap.size, 3, none⟩) (v := .int .i64 b0) (by simp [go_sem])
    have z4 := g.keep (p := ⟨w.heap.size, 4, none⟩) (v := .int .i64 a1) (by simp [go_sem])
    have z5 := g.keep (p := ⟨w.heap.size, 5, none⟩) (v := .int .i64 b1) (by simp [go_sem])
    replace g := ((Q.refl w).alloc _ _).trans g
    go_wp2
    go_ret
    exact ⟨by simp, g⟩
  rcases hZ with hZ | hZ
  all_goals
    rw [hZ]
    go_enter Try.func32, Try.ntmps32
    go_wp2_with fail
    refine (cB _).mono ?_
    rintro e w1 ⟨rfl, g⟩
    have z0 := g.keep (p := ⟨w.heap.size, 0, none⟩) (v := .bool true) (by simp [go_sem])
    have z1 := g.keep (p := ⟨w.heap.size, 1, none⟩) (v := .int .i64 h) (by simp [go_sem])
    have z2 := g.keep (p := ⟨w.heap.size, 2, none⟩) (v := .int .i64 a0) (by simp [go_sem])
    have z3 := g.keep (p := ⟨w.heap.size, 3, none⟩) (v := .int .i64 b0) (by simp [go_sem])
    have z4 := g.keep (p := ⟨w.heap.size, 4, none⟩) (v := .int .i64 a1) (by simp [go_sem])
    have z5 := g.keep (p := ⟨w.heap.size, 5, none⟩) (v := .int .i64 b1) (by simp [go_sem])
    replace g := ((Q.refl w).alloc _ _).trans g
    go_wp2
    go_ret
    exact ⟨by simp, g⟩
theorem secOk_sound (s : Sec) (m : Int) (hm : s.h.tmod 100 = m) : secOk s = (!(decide (s.h < 1)) && !(decide (60000 < s.h)) && !(m != 0) && soundS s) := by
  rw [secOk_eq s m hm]
  have e : soundS s = (inB s.a0 0 20000 && inB s.a1 1 20000 && (if s.r then !(s.b0 != 0) && !(s.b1 != 0) else inB s.b0 0 20000 && inB s.b1 1 20000)) := by
    unfold soundS boundS inB
    cases hr : s.r
    · rw [Bool.eq_iff_iff]
      simp
      omega
    · rw [Bool.eq_iff_iff]
      simp
      omega
  rw [e]
  simp only [Bool.and_assoc]
theorem hsum_mono (l : List Sec) (hl : ∀ s ∈ l, 0 ≤ s.h) (j n : Nat) (hjn : j ≤ n) : hsumI l j ≤ hsumI l n := by
  induction n with
  | zero => obtain rfl : j = 0 := by omega
            omega
  | succ n ih =>
    by_cases e : j = n + 1
    · subst e; omega
    · have h1 := ih (by omega)
      cases hg : l[n]? with
      | none =>
        have e1 : l.take (n + 1) = l.take n := by rw [List.take_add_one, hg]; simp
        unfold hsumI at *
        rw [e1]; exact h1
      | some s =>
        have := hl s (List.mem_of_getElem? hg)
        rw [hsumI_succ l n s hg]
        omega
theorem rightS_over (l : List Sec) (k : Nat) (s : Sec) (h : l[k]? = some s) (ho : 60000 < hsumI l k + s.h) : rightS l = false := by
  cases e : rightS l
  · rfl
  · unfold rightS at e
    simp only [Bool.and_eq_true, decide_eq_true_eq, List.all_eq_true] at e
    obtain ⟨⟨_, ha⟩, hs⟩ := e
    have hk : k < l.length := by
      rw [List.getElem?_eq_some_iff] at h
      exact h.1
    have := hsum_mono l (fun s hs => by have := secOk_h s (ha s hs); omega) (k + 1) l.length (by omega)
    rw [hsumI_succ l k s h] at this
    omega
set_option maxRecDepth 100000 in
set_option maxHeartbeats 2000000 in
theorem right_row (a : Addr) (cap : Nat) (l : List Sec) (h2 : l.length ≤ cap) (h3 : cap ≤ maxLen) (w : World) (h4 : ∀ i s, l[i]? = some s → s.I ∧ SecAt w (a.add (i * 6)) s) :
    Calls Try.prog 25 #[.slice (some a) l.length cap] w fun e w' => e = .returned (.bool (rightS l)) ∧ Q w w' := by
  unfold maxLen at h3
  have h5 : l.length ≤ 2 ^ 63 - 1 := Nat.le_trans h2 h3
  clear h2 h3
  by_cases n1 : l.length < 1
  · rw [rightS_short l n1]
    have n1B : decide ((l.length : Int) < 1) = true := decide_eq_true (by omega)
    clear h4
    go_enter Try.func25, Try.ntmps25
    go_wp2
    go_ret
    exact ⟨rfl, Q.refl w⟩
  have n1B : decide ((l.length : Int) < 1) = false := decide_eq_false (by omega)
  by_cases n2 : 4 < l.length
  · rw [rightS_long l n2]
    have n2B : decide ((4 : Int) < (l.length : Int)) = true := decide_eq_true (by omega)
    clear h4
    go_enter Try.func25, Try.ntmps25
    go_wp2
    go_ret
    exact ⟨rfl, Q.refl w⟩
  have n2B : decide ((4 : Int) < (l.length : Int)) = false := decide_eq_false (by omega)
  go_enter Try.func25, Try.ntmps25
  go_wp2
  go_loopw [3, 16] (fun lf i wr => ∃ (k : Nat), k ≤ l.length ∧ i = .int .i64 k ∧ lf = .int .i64 (60000 - hsumI l k) ∧ 0 ≤ hsumI l k ∧ hsumI l k ≤ 60000 ∧ okTo l k = true ∧ Q w wr) (fun _ i _ => l.length - (intOf i).toNat)
  case atStart => exact ⟨0, Nat.zero_le _, rfl, rfl, by simp [hsumI], by simp [hsumI], rfl, Q.refl w⟩
  case round =>
    obtain ⟨k, hk, rfl, rfl, t1, t2, hok, hq⟩ := hrel
    by_cases hl : k < l.length
    · have hlB : decide (k < l.length) = true := decide_eq_true hl
      have hg := List.getElem?_eq_getElem hl
      have hs := (h4 k _ hg).2.keep hq
      have hsu := hsumI_succ l k _ hg
      have hoku := okTo_succ l k _ hg hok
      have hbad := rightS_bad l k _ hg
      have hover := rightS_over l k _ hg
      clear h4 hok
      generalize l[k] = s at *
      generalize hsumI l k = t at *
      obtain ⟨r, h, a0, b0, a1, b1⟩ := s
      obtain ⟨f0, f1, f2, f3, f4, f5⟩ := hs
      obtain ⟨m, hm1⟩ : ∃ m, h.tmod 100 = m := ⟨_, rfl⟩
      have hsec := secOk_sound ⟨r, h, a0, b0, a1, b1⟩ m hm1
      have cS := fun w => sound_any r h a0 b0 a1 b1 w
      obtain ⟨lf, hlf⟩ : ∃ lf, 60000 - t = lf := ⟨_, rfl⟩
      rw [hlf]
      simp only at f0 f1 f2 f3 f4 f5 hsu hsec hover
      have HS := Lib.hid hsu
      have HM := Lib.hid hg
      clear hsu hg
      by_cases k1' : h < 1
      · have k1 : decide (h < 1) = true := decide_eq_true k1'
        have HB := Lib.hid (hbad (by rw [hsec]; simp [k1]))
        clear hbad hsec hoku hover cS
        go_wp2
        go_ret
        exact ⟨by rw [HB.out]; rfl, hq.alloc _ _⟩
      have k1 : decide (h < 1) = false := decide_eq_false k1'
      by_cases k2' : lf < h
      · have k2 : decide (lf < h) = true := decide_eq_true k2'
        have HB := Lib.hid (hover (by omega))
        clear hbad hsec hoku hover cS
        go_wp2
        go_ret
        exact ⟨by rw [HB.out]; rfl, hq.alloc _ _⟩
      have k2 : decide (lf < h) = false := decide_eq_false k2'
      have k2b : decide (60000 < h) = false := decide_eq_false (by omega)
      have k3 : (m != 0) = true ∨ (m != 0) = false := by cases (m != 0) <;> simp
      rcases k3 with k3 | k3
      · have HB := Lib.hid (hbad (by rw [hsec]; simp [k1, k2b, k3]))
        clear hbad hsec hoku hover cS k2b
        go_wp2
        go_ret
        exact ⟨by rw [HB.out]; rfl, hq.alloc _ _⟩
      generalize soundS ⟨r, h, a0, b0, a1, b1⟩ = s0 at *
      cases s0
      · have HB := Lib.hid (hbad (by rw [hsec]; simp))
        clear hbad hsec hoku hover k2b
        go_wp2_with fail
        refine (cS _).mono ?_
        rintro e w1 ⟨rfl, g⟩
        replace g := (hq.alloc _ _).trans g
        go_wp2
        go_ret
        exact ⟨by rw [HB.out]; rfl, g⟩
      · have HO := Lib.hid (hoku (by rw [hsec]; simp [k1, k2b, k3]))
        have e1 : IntKind.i64.wrap (lf - h) = lf - h := wrapI (by omega) (by omega)
        clear hbad hsec hoku hover k2b
        go_wp2_with fail
        refine (cS _).mono ?_
        rintro e w1 ⟨rfl, g⟩
        have z1 := g.keep (p := ⟨wr.heap.size, 1, none⟩) (v := .int .i64 h) (by simp [go_sem])
        replace g := (hq.alloc _ _).trans g
        go_wp2
        go_roundw
        case rel => exact ⟨k + 1, by omega, by go_num, by rw [HS.out]; congr 1; omega, by rw [HS.out]; omega, by rw [HS.out]; omega, HO.out, g⟩
        case measure => simp [intOf]; omega
    · have hlB : decide (k < l.length) = false := decide_eq_false hl
      obtain rfl : k = l.length := by omega
      have HE := Lib.hid ((rightS_end l (by omega) (by omega) hok).trans (decide_eq_true t2))
      clear h4 hok
      go_wp2
      go_ret
      exact ⟨by rw [HE.out]; rfl, hq⟩
theorem right_code : RightC := by
  intro v l w hv
  rcases hv with ⟨rfl, rfl⟩ | ⟨a, cap, rfl, h2, h3, h4⟩
  · rw [rightS_short [] (by simp)]
    go_enter Try.func25, Try.ntmps25
    go_wp2
    go_ret
    exact ⟨rfl, B.refl w⟩
  · exact (right_row a cap l h2 h3 w h4).mono fun _ _ h => ⟨h.1, h.2.b⟩
end Go.Proofs.Ytiblhebenhiijaa
