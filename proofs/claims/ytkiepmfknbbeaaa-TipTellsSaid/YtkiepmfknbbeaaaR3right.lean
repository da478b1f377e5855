/-
  The document's shapes: which may be.
-/
import Derived.Test.YtkiepmfknbbeaaaChecked
import Derived.Test.YtkiepmfknbbeaaaSec
namespace Go.Proofs.Ytkiepmfknbbeaaa
open Go.RowKit

theorem in_any (v a b : Int) (w : World) :
    Calls Try.prog 40 #[.int .i64 v, .int .i64 a, .int .i64 b] w fun e w' => e = .returned (.bool (inB v a b)) ∧ w = w' := by
  unfold inB
  have hb : decide (a ≤ v) = true ∨ decide (a ≤ v) = false := by cases decide (a ≤ v) <;> simp
  rcases hb with hb | hb
  all_goals
    rw [hb]
    go_enter Try.func40, Try.ntmps40
    go_wp2
    go_ret
    exact ⟨rfl, rfl⟩

set_option maxRecDepth 100000 in
set_option maxHeartbeats 2000000 in
theorem r3right_row (a : Addr) (cap : Nat) (l : List Sec) (h2 : l.length ≤ cap) (h3 : cap ≤ maxLen) (w : World) (h4 : ∀ i s, l[i]? = some s → s.I ∧ SecAt w (a.add (i * 6)) s) :
    Calls Try.prog 19 #[.slice (some a) l.length cap] w fun e w' => e = .returned (.bool (rightS l)) ∧ Q w w' := by
  unfold maxLen at h3
  have h5 : l.length ≤ 2 ^ 63 - 1 := Nat.le_trans h2 h3
  clear h2 h3
  by_cases n1 : l.length < 1
  · rw [rightS_short l n1]
    have n1B : decide ((l.length : Int) < 1) = true := decide_eq_true (by omega)
    clear h4
    go_enter Try.func19, Try.ntmps19
    go_wp2
    go_ret
    exact ⟨rfl, Q.refl w⟩
  have n1B : decide ((l.length : Int) < 1) = false := decide_eq_false (by omega)
  by_cases n2 : 4 < l.length
  · rw [rightS_long l n2]
    have n2B : decide ((4 : Int) < (l.length : Int)) = true := decide_eq_true (by omega)
    clear h4
    go_enter Try.func19, Try.ntmps19
    go_wp2
    go_ret
    exact ⟨rfl, Q.refl w⟩
  have n2B : decide ((4 : Int) < (l.length : Int)) = false := decide_eq_false (by omega)
  go_enter Try.func19, Try.ntmps19
  go_wp2
  go_loopw [3, 4] (fun hh i wr => ∃ (k : Nat), k ≤ l.length ∧ i = .int .i64 k ∧ hh = .int .i64 (hsumI l k) ∧ okTo l k = true ∧ Q w wr) (fun _ i _ => l.length - (intOf i).toNat)
  case atStart => exact ⟨0, Nat.zero_le _, rfl, rfl, rfl, Q.refl w⟩
  case round =>
    obtain ⟨k, hk, rfl, rfl, hok, hq⟩ := hrel
    obtain ⟨t1, t2⟩ := hsum_small l k hok
    have t3 : hsumI l k ≤ 240000 := by omega
    clear t2
    by_cases hl : k < l.length
    · have hlB : decide (k < l.length) = true := decide_eq_true hl
      have hg := List.getElem?_eq_getElem hl
      have hs := (h4 k _ hg).2.keep hq
      have hsu := hsumI_succ l k _ hg
      have hoku := okTo_succ l k _ hg hok
      have hbad := rightS_bad l k _ hg
      clear h4
      generalize l[k] = s at *
      generalize hsumI l k = t at *
      obtain ⟨f0, f1, f2, f3, f4, f5⟩ := hs
      obtain ⟨m, hm1⟩ : ∃ m, s.h.tmod 100 = m := ⟨_, rfl⟩
      have hsec := secOk_eq s m hm1
      have HS := Lib.hid hsu
      have HM := Lib.hid hg
      clear hsu hg
      have c1 := fun w => in_any s.a0 0 20000 w
      have c2 := fun w => in_any s.a1 1 20000 w
      have c3 := fun w => in_any s.b0 0 20000 w
      have c4 := fun w => in_any s.b1 1 20000 w
      have k1 : decide (s.h < 1) = true ∨ decide (s.h < 1) = false := by cases decide (s.h < 1) <;> simp
      rcases k1 with k1 | k1
      · have HB := Lib.hid (hbad (by rw [hsec]; simp [k1]))
        clear hbad hsec hoku
        go_wp2
        go_ret
        exact ⟨by rw [HB.out]; rfl, hq.alloc _ _⟩
      · have k2 : decide (60000 < s.h) = true ∨ decide (60000 < s.h) = false := by cases decide (60000 < s.h) <;> simp
        rcases k2 with k2 | k2
        · have HB := Lib.hid (hbad (by rw [hsec]; simp [k1, k2]))
          clear hbad hsec hoku
          go_wp2
          go_ret
          exact ⟨by rw [HB.out]; rfl, hq.alloc _ _⟩
        · have k3 : (m != 0) = true ∨ (m != 0) = false := by cases (m != 0) <;> simp
          rcases k3 with k3 | k3
          · have HB := Lib.hid (hbad (by rw [hsec]; simp [k1, k2, k3]))
            clear hbad hsec hoku
            go_wp2
            go_ret
            exact ⟨by rw [HB.out]; rfl, hq.alloc _ _⟩
          · have k4 : inB s.a0 0 20000 = true ∨ inB s.a0 0 20000 = false := by cases inB s.a0 0 20000 <;> simp
            rcases k4 with k4 | k4
            · rw [k4] at c1
              have k5 : inB s.a1 1 20000 = true ∨ inB s.a1 1 20000 = false := by cases inB s.a1 1 20000 <;> simp
              rcases k5 with k5 | k5
              · rw [k5] at c2
                have k6 : s.r = true ∨ s.r = false := by cases s.r <;> simp
                rcases k6 with k6 | k6
                · have k7 : (s.b0 != 0) = true ∨ (s.b0 != 0) = false := by cases (s.b0 != 0) <;> simp
                  rcases k7 with k7 | k7
                  · have HB := Lib.hid (hbad (by rw [hsec]; simp [k1, k2, k3, k4, k5, k6, k7]))
                    clear hbad hsec hoku
                    go_wp2_with fail
                    refine (c1 _).mono ?_
                    rintro e w1 ⟨rfl, rfl⟩
                    go_wp2_with fail
                    refine (c2 _).mono ?_
                    rintro e w1 ⟨rfl, rfl⟩
                    go_wp2
                    go_ret
                    exact ⟨by rw [HB.out]; rfl, hq.alloc _ _⟩
                  · have k8 : (s.b1 != 0) = true ∨ (s.b1 != 0) = false := by cases (s.b1 != 0) <;> simp
                    rcases k8 with k8 | k8
                    · have HB := Lib.hid (hbad (by rw [hsec]; simp [k1, k2, k3, k4, k5, k6, k7, k8]))
                      clear hbad hsec hoku
                      go_wp2_with fail
                      refine (c1 _).mono ?_
                      rintro e w1 ⟨rfl, rfl⟩
                      go_wp2_with fail
                      refine (c2 _).mono ?_
                      rintro e w1 ⟨rfl, rfl⟩
                      go_wp2
                      go_ret
                      exact ⟨by rw [HB.out]; rfl, hq.alloc _ _⟩
                    · replace hoku := hoku (by rw [hsec]; simp [k1, k2, k3, k4, k5, k6, k7, k8])
                      obtain ⟨z1, z2⟩ := secOk_h s (by rw [hsec]; simp [k1, k2, k3, k4, k5, k6, k7, k8])
                      clear hbad hsec
                      have HO := Lib.hid hoku
                      clear hoku
                      go_wp2_with fail
                      refine (c1 _).mono ?_
                      rintro e w1 ⟨rfl, rfl⟩
                      go_wp2_with fail
                      refine (c2 _).mono ?_
                      rintro e w1 ⟨rfl, rfl⟩
                      go_wp2
                      go_roundw
                      case rel => exact ⟨k + 1, by omega, by go_num, by rw [HS.out], HO.out, hq.alloc _ _⟩
                      case measure => simp [intOf]; omega
                · have k9 : inB s.b0 0 20000 = true ∨ inB s.b0 0 20000 = false := by cases inB s.b0 0 20000 <;> simp
                  rcases k9 with k9 | k9
                  · rw [k9] at c3
                    have ka : inB s.b1 1 20000 = true ∨ inB s.b1 1 20000 = false := by cases inB s.b1 1 20000 <;> simp
                    rcases ka with ka | ka
                    · rw [ka] at c4
                      replace hoku := hoku (by rw [hsec]; simp [k1, k2, k3, k4, k5, k6, k9, ka])
                      obtain ⟨z1, z2⟩ := secOk_h s (by rw [hsec]; simp [k1, k2, k3, k4, k5, k6, k9, ka])
                      clear hbad hsec
                      have HO := Lib.hid hoku
                      clear hoku
                      go_wp2_with fail
                      refine (c1 _).mono ?_
                      rintro e w1 ⟨rfl, rfl⟩
                      go_wp2_with fail
                      refine (c2 _).mono ?_
                      rintro e w1 ⟨rfl, rfl⟩
                      go_wp2_with fail
                      refine (c3 _).mono ?_
                      rintro e w1 ⟨rfl, rfl⟩
                      go_wp2_with fail
                      refine (c4 _).mono ?_
                      rintro e w1 ⟨rfl, rfl⟩
                      go_wp2
                      go_roundw
                      case rel => exact ⟨k + 1, by omega, by go_num, by rw [HS.out], HO.out, hq.alloc _ _⟩
                      case measure => simp [intOf]; omega
                    · rw [ka] at c4
                      have HB := Lib.hid (hbad (by rw [hsec]; simp [k1, k2, k3, k4, k5, k6, k9, ka]))
                      clear hbad hsec hoku
                      go_wp2_with fail
                      refine (c1 _).mono ?_
                      rintro e w1 ⟨rfl, rfl⟩
                      go_wp2_with fail
                      refine (c2 _).mono ?_
                      rintro e w1 ⟨rfl, rfl⟩
                      go_wp2_with fail
                      refine (c3 _).mono ?_
                      rintro e w1 ⟨rfl, rfl⟩
                      go_wp2_with fail
                      refine (c4 _).mono ?_
                      rintro e w1 ⟨rfl, rfl⟩
                      go_wp2
                      go_ret
                      exact ⟨by rw [HB.out]; rfl, hq.alloc _ _⟩
                  · rw [k9] at c3
                    have HB := Lib.hid (hbad (by rw [hsec]; simp [k1, k2, k3, k4, k5, k6, k9]))
                    clear hbad hsec hoku
                    go_wp2_with fail
                    refine (c1 _).mono ?_
                    rintro e w1 ⟨rfl, rfl⟩
                    go_wp2_with fail
                    refine (c2 _).mono ?_
                    rintro e w1 ⟨rfl, rfl⟩
                    go_wp2_with fail
                    refine (c3 _).mono ?_
                    rintro e w1 ⟨rfl, rfl⟩
                    go_wp2
                    go_ret
                    exact ⟨by rw [HB.out]; rfl, hq.alloc _ _⟩
              · rw [k5] at c2
                have HB := Lib.hid (hbad (by rw [hsec]; simp [k1, k2, k3, k4, k5]))
                clear hbad hsec hoku
                go_wp2_with fail
                refine (c1 _).mono ?_
                rintro e w1 ⟨rfl, rfl⟩
                go_wp2_with fail
                refine (c2 _).mono ?_
                rintro e w1 ⟨rfl, rfl⟩
                go_wp2
                go_ret
                exact ⟨by rw [HB.out]; rfl, hq.alloc _ _⟩
            · rw [k4] at c1
              have HB := Lib.hid (hbad (by rw [hsec]; simp [k1, k2, k3, k4]))
              clear hbad hsec hoku
              go_wp2_with fail
              refine (c1 _).mono ?_
              rintro e w1 ⟨rfl, rfl⟩
              go_wp2
              go_ret
              exact ⟨by rw [HB.out]; rfl, hq.alloc _ _⟩
    · have hlB : decide (k < l.length) = false := decide_eq_false hl
      obtain rfl : k = l.length := by omega
      have HE := Lib.hid (rightS_end l (by omega) (by omega) hok)
      clear h4 hok
      go_wp2
      go_ret
      exact ⟨by rw [HE.out]; rfl, hq⟩

theorem r3right_any (v : Value) (l : List Sec) (w : World) (hv : IsSecs w v l) :
    Calls Try.prog 19 #[v] w fun e w' => e = .returned (.bool (rightS l)) ∧ Q w w' := by
  rcases hv with ⟨rfl, rfl⟩ | ⟨a, cap, rfl, h2, h3, h4⟩
  · rw [rightS_short [] (by simp)]
    go_enter Try.func19, Try.ntmps19
    go_wp2
    go_ret
    exact ⟨rfl, Q.refl w⟩
  · exact r3right_row a cap l h2 h3 w h4
end Go.Proofs.Ytkiepmfknbbeaaa
