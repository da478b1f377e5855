/-
 Contracts and what they rest on.
-/
import Derived.Lib.Hide
import Derived.Deep.QuietTactic
import Derived.BigQuiet
import Derived.Laws.StructEq
import Derived.Test.YtalnfojaccfcjaaGreatDoorChecked
import Derived.KernelRfl
import Derived.Test.YtalnfojaccfcjaaGreatDoorZ1
import Derived.Test.YtalnfojaccfcjaaGreatDoorZ2
import Derived.Test.YtalnfojaccfcjaaGreatDoorZ3
import Derived.Test.YtalnfojaccfcjaaGreatDoorZ4
import Derived.Test.YtalnfojaccfcjaaGreatDoorZ9
namespace Go.Proofs.YtalnfojaccfcjaaGreatDoor
open Go.RowKit
theorem in_any (v a b : Int) (w : World) :
  Calls Tryz.prog 101 #[.int .i64 v, .int .i64 a, .int .i64 b] w fun e w' => e = .returned (.bool (inB v a b)) ∧ w = w' := by
 unfold inB
 have hb : decide (a ≤ v) = true ∨ decide (a ≤ v) = false := by cases decide (a ≤ v) <;> simp
 rcases hb with hb | hb
 all_goals
  rw [hb]
  go_enter Tryz.func101, Tryz.ntmps101
  go_wp2
  go_ret
  exact ⟨rfl, rfl⟩
set_option maxRecDepth 100000 in
set_option maxHeartbeats 2000000 in
theorem r3right_row (a : Addr) (cap : Nat) (l : List Sec) (h2 : l.length ≤ cap) (h3 : cap ≤ maxLen) (w : World) (h4 : ∀ i s, l[i]? = some s → s.I ∧ SecAt w (a.add (i * 6)) s) :
  Calls Tryz.prog 61 #[.slice (some a) l.length cap] w fun e w' => e = .returned (.bool (rightS l)) ∧ Q w w' := by
 unfold maxLen at h3
 have h5 : l.length ≤ 2 ^ 63 - 1 := Nat.le_trans h2 h3
 clear h2 h3
 by_cases n1 : l.length < 1
 ·rw [rightS_short l n1]
  have n1B : decide ((l.length : Int) < 1) = true := decide_eq_true (by omega)
  clear h4
  go_enter Tryz.func61, Tryz.ntmps61
  go_wp2
  go_ret
  exact ⟨rfl, Q.refl w⟩
 have n1B : decide ((l.length : Int) < 1) = false := decide_eq_false (by omega)
 by_cases n2 : 4 < l.length
 ·rw [rightS_long l n2]
  have n2B : decide ((4 : Int) < (l.length : Int)) = true := decide_eq_true (by omega)
  clear h4
  go_enter Tryz.func61, Tryz.ntmps61
  go_wp2
  go_ret
  exact ⟨rfl, Q.refl w⟩
 have n2B : decide ((4 : Int) < (l.length : Int)) = false := decide_eq_false (by omega)
 go_enter Tryz.func61, Tryz.ntmps61
 go_wp2
 go_loopw [3, 4] (fun hh i wr => ∃ (k : Nat), k ≤ l.length ∧ i = .int .i64 k ∧ hh = .int .i64 (hsumI l k) ∧ okTo l k = true ∧ Q w wr) (fun _ i _ => l.length - (intOf i).toNat)
 case atStart => exact ⟨0, Nat.zero_le _, rfl, rfl, rfl, Q.refl w⟩
 case round =>
  obtain ⟨k, hk, rfl, rfl, hok, hq⟩ := hrel
  obtain ⟨t1, t2⟩ := hsum_small l k hok
  have t3 : hsumI l k ≤ 240000 := by omega
  clear t2
  by_cases hl : k < l.length
  ·have hlB : decide (k < l.length) = true := decide_eq_true hl
   have hg := List.getElem?_eq_getElem hl
   have hs := (h4 k _ hg).2.keep hq
   have hsu := hsumI_succ l k _ hg
   have hoku := okTo_succ l k _ hg hok
   have hbad := rightS_bad l k _ hg
   clear h4
   generalize l[k] = s at *
   generalize hsumI l k = t at *
   obtain ⟨f0, f1, f2, f3, f4, f5⟩ := hs
   obtain ⟨m, hm1⟩ : ∃ m, s.h.tmod 100 = m := ⟨_, rfl⟩
   have hsec := secOk_eq s m hm1
   have HS := Lib.hid hsu
   have HM := Lib.hid hg
   clear hsu hg
   have c1 := fun w => in_any s.a0 0 20000 w
   have c2 := fun w => in_any s.a1 1 20000 w
   have c3 := fun w => in_any s.b0 0 20000 w
   have c4 := fun w => in_any s.b1 1 20000 w
   have k1 : decide (s.h < 1) = true ∨ decide (s.h < 1) = false := by cases decide (s.h < 1) <;> simp
   rcases k1 with k1 | k1
   ·have HB := Lib.hid (hbad (by rw [hsec]; simp [k1]))
    clear hbad hsec hoku
    go_wp2
    go_ret
    exact ⟨by rw [HB.out]; rfl, hq.alloc _ _⟩
   ·have k2 : decide (60000 < s.h) = true ∨ decide (60000 < s.h) = false := by cases decide (60000 < s.h) <;> simp
    rcases k2 with k2 | k2
    ·have HB := Lib.hid (hbad (by rw [hsec]; simp [k1, k2]))
     clear hbad hsec hoku
     go_wp2
     go_ret
     exact ⟨by rw [HB.out]; rfl, hq.alloc _ _⟩
    ·have k3 : (m != 0) = true ∨ (m != 0) = false := by cases (m != 0) <;> simp
     rcases k3 with k3 | k3
     ·have HB := Lib.hid (hbad (by rw [hsec]; simp [k1, k2, k3]))
      clear hbad hsec hoku
      go_wp2
      go_ret
      exact ⟨by rw [HB.out]; rfl, hq.alloc _ _⟩
     ·have k4 : inB s.a0 0 20000 = true ∨ inB s.a0 0 20000 = false := by cases inB s.a0 0 20000 <;> simp
      rcases k4 with k4 | k4
      ·rw [k4] at c1
       have k5 : inB s.a1 1 20000 = true ∨ inB s.a1 1 20000 = false := by cases inB s.a1 1 20000 <;> simp
       rcases k5 with k5 | k5
       ·rw [k5] at c2
        have k6 : s.r = true ∨ s.r = false := by cases s.r <;> simp
        rcases k6 with k6 | k6
        ·have k7 : (s.b0 != 0) = true ∨ (s.b0 != 0) = false := by cases (s.b0 != 0) <;> simp
         rcases k7 with k7 | k7
         ·have HB := Lib.hid (hbad (by rw [hsec]; simp [k1, k2, k3, k4, k5, k6, k7]))
          clear hbad hsec hoku
          go_wp2_with fail
          refine (c1 _).mono ?_
          rintro e w1 ⟨rfl, rfl⟩
          go_wp2_with fail
          refine (c2 _).mono ?_
          rintro e w1 ⟨rfl, rfl⟩
          go_wp2
          go_ret
          exact ⟨by rw [HB.out]; rfl, hq.alloc _ _⟩
         ·have k8 : (s.b1 != 0) = true ∨ (s.b1 != 0) = false := by cases (s.b1 != 0) <;> simp
          rcases k8 with k8 | k8
          ·have HB := Lib.hid (hbad (by rw [hsec]; simp [k1, k2, k3, k4, k5, k6, k7, k8]))
           clear hbad hsec hoku
           go_wp2_with fail
           refine (c1 _).mono ?_
           rintro e w1 ⟨rfl, rfl⟩
           go_wp2_with fail
           refine (c2 _).mono ?_
           rintro e w1 ⟨rfl, rfl⟩
           go_wp2
           go_ret
           exact ⟨by rw [HB.out]; rfl, hq.alloc _ _⟩
          ·replace hoku := hoku (by rw [hsec]; simp [k1, k2, k3, k4, k5, k6, k7, k8])
           obtain ⟨z1, z2⟩ := secOk_h s (by rw [hsec]; simp [k1, k2, k3, k4, k5, k6, k7, k8])
           clear hbad hsec
           have HO := Lib.hid hoku
           clear hoku
           go_wp2_with fail
           refine (c1 _).mono ?_
           rintro e w1 ⟨rfl, rfl⟩
           go_wp2_with fail
           refine (c2 _).mono ?_
           rintro e w1 ⟨rfl, rfl⟩
           go_wp2
           go_roundw
           case rel => exact ⟨k + 1, by omega, by go_num, by rw [HS.out], HO.out, hq.alloc _ _⟩
           case measure => simp [intOf]; omega
        ·have k9 : inB s.b0 0 20000 = true ∨ inB s.b0 0 20000 = false := by cases inB s.b0 0 20000 <;> simp
         rcases k9 with k9 | k9
         ·rw [k9] at c3
          have ka : inB s.b1 1 20000 = true ∨ inB s.b1 1 20000 = false := by cases inB s.b1 1 20000 <;> simp
          rcases ka with ka | ka
          ·rw [ka] at c4
           replace hoku := hoku (by rw [hsec]; simp [k1, k2, k3, k4, k5, k6, k9, ka])
           obtain ⟨z1, z2⟩ := secOk_h s (by rw [hsec]; simp [k1, k2, k3, k4, k5, k6, k9, ka])
           clear hbad hsec
           have HO := Lib.hid hoku
           clear hoku
           go_wp2_with fail
           refine (c1 _).mono ?_
           rintro e w1 ⟨rfl, rfl⟩
           go_wp2_with fail
           refine (c2 _).mono ?_
           rintro e w1 ⟨rfl, rfl⟩
           go_wp2_with fail
           refine (c3 _).mono ?_
           rintro e w1 ⟨rfl, rfl⟩
           go_wp2_with fail
           refine (c4 _).mono ?_
           rintro e w1 ⟨rfl, rfl⟩
           go_wp2
           go_roundw
           case rel => exact ⟨k + 1, by omega, by go_num, by rw [HS.out], HO.out, hq.alloc _ _⟩
           case measure => simp [intOf]; omega
          ·rw [ka] at c4
           have HB := Lib.hid (hbad (by rw [hsec]; simp [k1, k2, k3, k4, k5, k6, k9, ka]))
           clear hbad hsec hoku
           go_wp2_with fail
           refine (c1 _).mono ?_
           rintro e w1 ⟨rfl, rfl⟩
           go_wp2_with fail
           refine (c2 _).mono ?_
           rintro e w1 ⟨rfl, rfl⟩
           go_wp2_with fail
           refine (c3 _).mono ?_
           rintro e w1 ⟨rfl, rfl⟩
           go_wp2_with fail
           refine (c4 _).mono ?_
           rintro e w1 ⟨rfl, rfl⟩
           go_wp2
           go_ret
           exact ⟨by rw [HB.out]; rfl, hq.alloc _ _⟩
         ·rw [k9] at c3
          have HB := Lib.hid (hbad (by rw [hsec]; simp [k1, k2, k3, k4, k5, k6, k9]))
          clear hbad hsec hoku
          go_wp2_with fail
          refine (c1 _).mono ?_
          rintro e w1 ⟨rfl, rfl⟩
          go_wp2_with fail
          refine (c2 _).mono ?_
          rintro e w1 ⟨rfl, rfl⟩
          go_wp2_with fail
          refine (c3 _).mono ?_
          rintro e w1 ⟨rfl, rfl⟩
          go_wp2
          go_ret
          exact ⟨by rw [HB.out]; rfl, hq.alloc _ _⟩
       ·rw [k5] at c2
        have HB := Lib.hid (hbad (by rw [hsec]; simp [k1, k2, k3, k4, k5]))
        clear hbad hsec hoku
        go_wp2_with fail
        refine (c1 _).mono ?_
        rintro e w1 ⟨rfl, rfl⟩
        go_wp2_with fail
        refine (c2 _).mono ?_
        rintro e w1 ⟨rfl, rfl⟩
        go_wp2
        go_ret
        exact ⟨by rw [HB.out]; rfl, hq.alloc _ _⟩
      ·rw [k4] at c1
       have HB := Lib.hid (hbad (by rw [hsec]; simp [k1, k2, k3, k4]))
       clear hbad hsec hoku
       go_wp2_with fail
       refine (c1 _).mono ?_
       rintro e w1 ⟨rfl, rfl⟩
       go_wp2
       go_ret
       exact ⟨by rw [HB.out]; rfl, hq.alloc _ _⟩
  ·have hlB : decide (k < l.length) = false := decide_eq_false hl
   obtain rfl : k = l.length := by omega
   have HE := Lib.hid (rightS_end l (by omega) (by omega) hok)
   clear h4 hok
   go_wp2
   go_ret
   exact ⟨by rw [HE.out]; rfl, hq⟩
theorem r3right_any (v : Value) (l : List Sec) (w : World) (hv : IsSecs w v l) :
  Calls Tryz.prog 61 #[v] w fun e w' => e = .returned (.bool (rightS l)) ∧ Q w w' := by
 rcases hv with ⟨rfl, rfl⟩ | ⟨a, cap, rfl, h2, h3, h4⟩
 ·rw [rightS_short [] (by simp)]
  go_enter Tryz.func61, Tryz.ntmps61
  go_wp2
  go_ret
  exact ⟨rfl, Q.refl w⟩
 ·exact r3right_row a cap l h2 h3 w h4
end Go.Proofs.YtalnfojaccfcjaaGreatDoor
namespace Go.Proofs.YtalnfojaccfcjaaGreatDoor
open Go.RowKit
def tipB (s : ByteArray) (cap filt err : Int) (l : List Sec) : Bool := rightS l && inB cap 1 20000000 && inB filt 1 60000 && inB err 0 10000 && nameS s
theorem r8in_any (v a b : Int) (w : World) :
  Calls Tryz.prog 60 #[.int .i64 v, .int .i64 a, .int .i64 b] w fun e w' => e = .returned (.bool (inB v a b)) ∧ w = w' := by
 unfold inB
 have hb : decide (a ≤ v) = true ∨ decide (a ≤ v) = false := by cases decide (a ≤ v) <;> simp
 rcases hb with hb | hb
 all_goals
  go_enter Tryz.func60, Tryz.ntmps60
  go_wp2
  go_ret
  exact ⟨by simp [hb], rfl⟩
theorem r8tipright_any (s : ByteArray) (cap filt err : Int) (v : Value) (l : List Sec) (w : World) (hv : IsSecs w v l) :
  Calls Tryz.prog 62 #[.agg #[.string s, .int .i64 cap, .int .i64 filt, .int .i64 err, v]] w fun e w' => e = .returned (.bool (tipB s cap filt err l)) ∧ B w w' := by
 obtain ⟨ao, nn, cc, rfl⟩ := hv.form
 have HV := Lib.hid hv
 clear hv
 have cl := fun w h => r3right_any (.slice ao nn cc) l w h
 have cc_ := fun w => r8in_any cap 1 20000000 w
 have cf := fun w => r8in_any filt 1 60000 w
 have ce := fun w => r8in_any err 0 10000 w
 have cn := fun w => r8name_any s w
 unfold tipB
 have kc : ∀ w', B (w.alloc (.cells #[.string s, .int .i64 cap, .int .i64 filt, .int .i64 err, .slice ao nn cc] 35)) w' → B w w' := fun w' q => ((B.refl w).alloc _ _).trans q
 generalize rightS l = bl at *
 generalize inB cap 1 20000000 = bc at *
 generalize inB filt 1 60000 = bf at *
 generalize inB err 0 10000 = be at *
 generalize nameS s = bn at *
 cases bn
 ·go_enter Tryz.func62, Tryz.ntmps62
  go_wp2_with fail
  have k0 : (w.alloc (.cells #[.string s, .int .i64 cap, .int .i64 filt, .int .i64 err, .slice ao nn cc] 35)).cell? ⟨w.heap.size, 0, none⟩ = some (.string s) := by simp [go_sem]
  have k1 : (w.alloc (.cells #[.string s, .int .i64 cap, .int .i64 filt, .int .i64 err, .slice ao nn cc] 35)).cell? ⟨w.heap.size, 1, none⟩ = some (.int .i64 cap) := by simp [go_sem]
  have k2 : (w.alloc (.cells #[.string s, .int .i64 cap, .int .i64 filt, .int .i64 err, .slice ao nn cc] 35)).cell? ⟨w.heap.size, 2, none⟩ = some (.int .i64 filt) := by simp [go_sem]
  have k3 : (w.alloc (.cells #[.string s, .int .i64 cap, .int .i64 filt, .int .i64 err, .slice ao nn cc] 35)).cell? ⟨w.heap.size, 3, none⟩ = some (.int .i64 err) := by simp [go_sem]
  have k4 : (w.alloc (.cells #[.string s, .int .i64 cap, .int .i64 filt, .int .i64 err, .slice ao nn cc] 35)).cell? ⟨w.heap.size, 4, none⟩ = some (.slice ao nn cc) := by simp [go_sem]
  have hv := HV.out.keepB ((B.refl w).alloc #[.string s, .int .i64 cap, .int .i64 filt, .int .i64 err, .slice ao nn cc] 35)
  have g := (B.refl w).alloc #[.string s, .int .i64 cap, .int .i64 filt, .int .i64 err, .slice ao nn cc] 35
  generalize w.alloc (.cells #[.string s, .int .i64 cap, .int .i64 filt, .int .i64 err, .slice ao nn cc] 35) = W at *
  refine (cn _).mono ?_
  rintro e w1 ⟨rfl, rfl⟩
  go_wp2
  go_ret
  exact ⟨by simp, g⟩
 cases bl
 ·go_enter Tryz.func62, Tryz.ntmps62
  go_wp2_with fail
  have k0 : (w.alloc (.cells #[.string s, .int .i64 cap, .int .i64 filt, .int .i64 err, .slice ao nn cc] 35)).cell? ⟨w.heap.size, 0, none⟩ = some (.string s) := by simp [go_sem]
  have k1 : (w.alloc (.cells #[.string s, .int .i64 cap, .int .i64 filt, .int .i64 err, .slice ao nn cc] 35)).cell? ⟨w.heap.size, 1, none⟩ = some (.int .i64 cap) := by simp [go_sem]
  have k2 : (w.alloc (.cells #[.string s, .int .i64 cap, .int .i64 filt, .int .i64 err, .slice ao nn cc] 35)).cell? ⟨w.heap.size, 2, none⟩ = some (.int .i64 filt) := by simp [go_sem]
  have k3 : (w.alloc (.cells #[.string s, .int .i64 cap, .int .i64 filt, .int .i64 err, .slice ao nn cc] 35)).cell? ⟨w.heap.size, 3, none⟩ = some (.int .i64 err) := by simp [go_sem]
  have k4 : (w.alloc (.cells #[.string s, .int .i64 cap, .int .i64 filt, .int .i64 err, .slice ao nn cc] 35)).cell? ⟨w.heap.size, 4, none⟩ = some (.slice ao nn cc) := by simp [go_sem]
  have hv := HV.out.keepB ((B.refl w).alloc #[.string s, .int .i64 cap, .int .i64 filt, .int .i64 err, .slice ao nn cc] 35)
  have g := (B.refl w).alloc #[.string s, .int .i64 cap, .int .i64 filt, .int .i64 err, .slice ao nn cc] 35
  generalize w.alloc (.cells #[.string s, .int .i64 cap, .int .i64 filt, .int .i64 err, .slice ao nn cc] 35) = W at *
  refine (cn _).mono ?_
  rintro e w1 ⟨rfl, rfl⟩
  go_wp2_with fail
  refine (cl _ hv).mono ?_
  rintro e w3 ⟨rfl, q⟩
  replace q := q.b
  replace k0 := q.keep k0
  replace k1 := q.keep k1
  replace k2 := q.keep k2
  replace k3 := q.keep k3
  replace k4 := q.keep k4
  replace hv := hv.keepB q
  replace g := g.trans q
  clear q
  go_wp2
  go_ret
  exact ⟨by simp, g⟩
 cases bc
 ·go_enter Tryz.func62, Tryz.ntmps62
  go_wp2_with fail
  have k0 : (w.alloc (.cells #[.string s, .int .i64 cap, .int .i64 filt, .int .i64 err, .slice ao nn cc] 35)).cell? ⟨w.heap.size, 0, none⟩ = some (.string s) := by simp [go_sem]
  have k1 : (w.alloc (.cells #[.string s, .int .i64 cap, .int .i64 filt, .int .i64 err, .slice ao nn cc] 35)).cell? ⟨w.heap.size, 1, none⟩ = some (.int .i64 cap) := by simp [go_sem]
  have k2 : (w.alloc (.cells #[.string s, .int .i64 cap, .int .i64 filt, .int .i64 err, .slice ao nn cc] 35)).cell? ⟨w.heap.size, 2, none⟩ = some (.int .i64 filt) := by simp [go_sem]
  have k3 : (w.alloc (.cells #[.string s, .int .i64 cap, .int .i64 filt, .int .i64 err, .slice ao nn cc] 35)).cell? ⟨w.heap.size, 3, none⟩ = some (.int .i64 err) := by simp [go_sem]
  have k4 : (w.alloc (.cells #[.string s, .int .i64 cap, .int .i64 filt, .int .i64 err, .slice ao nn cc] 35)).cell? ⟨w.heap.size, 4, none⟩ = some (.slice ao nn cc) := by simp [go_sem]
  have hv := HV.out.keepB ((B.refl w).alloc #[.string s, .int .i64 cap, .int .i64 filt, .int .i64 err, .slice ao nn cc] 35)
  have g := (B.refl w).alloc #[.string s, .int .i64 cap, .int .i64 filt, .int .i64 err, .slice ao nn cc] 35
  generalize w.alloc (.cells #[.string s, .int .i64 cap, .int .i64 filt, .int .i64 err, .slice ao nn cc] 35) = W at *
  refine (cn _).mono ?_
  rintro e w1 ⟨rfl, rfl⟩
  go_wp2_with fail
  refine (cl _ hv).mono ?_
  rintro e w3 ⟨rfl, q⟩
  replace q := q.b
  replace k0 := q.keep k0
  replace k1 := q.keep k1
  replace k2 := q.keep k2
  replace k3 := q.keep k3
  replace k4 := q.keep k4
  replace hv := hv.keepB q
  replace g := g.trans q
  clear q
  go_wp2_with fail
  refine (cc_ _).mono ?_
  rintro e w1 ⟨rfl, rfl⟩
  go_wp2
  go_ret
  exact ⟨by simp, g⟩
 cases bf
 ·go_enter Tryz.func62, Tryz.ntmps62
  go_wp2_with fail
  have k0 : (w.alloc (.cells #[.string s, .int .i64 cap, .int .i64 filt, .int .i64 err, .slice ao nn cc] 35)).cell? ⟨w.heap.size, 0, none⟩ = some (.string s) := by simp [go_sem]
  have k1 : (w.alloc (.cells #[.string s, .int .i64 cap, .int .i64 filt, .int .i64 err, .slice ao nn cc] 35)).cell? ⟨w.heap.size, 1, none⟩ = some (.int .i64 cap) := by simp [go_sem]
  have k2 : (w.alloc (.cells #[.string s, .int .i64 cap, .int .i64 filt, .int .i64 err, .slice ao nn cc] 35)).cell? ⟨w.heap.size, 2, none⟩ = some (.int .i64 filt) := by simp [go_sem]
  have k3 : (w.alloc (.cells #[.string s, .int .i64 cap, .int .i64 filt, .int .i64 err, .slice ao nn cc] 35)).cell? ⟨w.heap.size, 3, none⟩ = some (.int .i64 err) := by simp [go_sem]
  have k4 : (w.alloc (.cells #[.string s, .int .i64 cap, .int .i64 filt, .int .i64 err, .slice ao nn cc] 35)).cell? ⟨w.heap.size, 4, none⟩ = some (.slice ao nn cc) := by simp [go_sem]
  have hv := HV.out.keepB ((B.refl w).alloc #[.string s, .int .i64 cap, .int .i64 filt, .int .i64 err, .slice ao nn cc] 35)
  have g := (B.refl w).alloc #[.string s, .int .i64 cap, .int .i64 filt, .int .i64 err, .slice ao nn cc] 35
  generalize w.alloc (.cells #[.string s, .int .i64 cap, .int .i64 filt, .int .i64 err, .slice ao nn cc] 35) = W at *
  refine (cn _).mono ?_
  rintro e w1 ⟨rfl, rfl⟩
  go_wp2_with fail
  refine (cl _ hv).mono ?_
  rintro e w3 ⟨rfl, q⟩
  replace q := q.b
  replace k0 := q.keep k0
  replace k1 := q.keep k1
  replace k2 := q.keep k2
  replace k3 := q.keep k3
  replace k4 := q.keep k4
  replace hv := hv.keepB q
  replace g := g.trans q
  clear q
  go_wp2_with fail
  refine (cc_ _).mono ?_
  rintro e w1 ⟨rfl, rfl⟩
  go_wp2_with fail
  refine (cf _).mono ?_
  rintro e w1 ⟨rfl, rfl⟩
  go_wp2
  go_ret
  exact ⟨by simp, g⟩
 cases be
 ·go_enter Tryz.func62, Tryz.ntmps62
  go_wp2_with fail
  have k0 : (w.alloc (.cells #[.string s, .int .i64 cap, .int .i64 filt, .int .i64 err, .slice ao nn cc] 35)).cell? ⟨w.heap.size, 0, none⟩ = some (.string s) := by simp [go_sem]
  have k1 : (w.alloc (.cells #[.string s, .int .i64 cap, .int .i64 filt, .int .i64 err, .slice ao nn cc] 35)).cell? ⟨w.heap.size, 1, none⟩ = some (.int .i64 cap) := by simp [go_sem]
  have k2 : (w.alloc (.cells #[.string s, .int .i64 cap, .int .i64 filt, .int .i64 err, .slice ao nn cc] 35)).cell? ⟨w.heap.size, 2, none⟩ = some (.int .i64 filt) := by simp [go_sem]
  have k3 : (w.alloc (.cells #[.string s, .int .i64 cap, .int .i64 filt, .int .i64 err, .slice ao nn cc] 35)).cell? ⟨w.heap.size, 3, none⟩ = some (.int .i64 err) := by simp [go_sem]
  have k4 : (w.alloc (.cells #[.string s, .int .i64 cap, .int .i64 filt, .int .i64 err, .slice ao nn cc] 35)).cell? ⟨w.heap.size, 4, none⟩ = some (.slice ao nn cc) := by simp [go_sem]
  have hv := HV.out.keepB ((B.refl w).alloc #[.string s, .int .i64 cap, .int .i64 filt, .int .i64 err, .slice ao nn cc] 35)
  have g := (B.refl w).alloc #[.string s, .int .i64 cap, .int .i64 filt, .int .i64 err, .slice ao nn cc] 35
  generalize w.alloc (.cells #[.string s, .int .i64 cap, .int .i64 filt, .int .i64 err, .slice ao nn cc] 35) = W at *
  refine (cn _).mono ?_
  rintro e w1 ⟨rfl, rfl⟩
  go_wp2_with fail
  refine (cl _ hv).mono ?_
  rintro e w3 ⟨rfl, q⟩
  replace q := q.b
  replace k0 := q.keep k0
  replace k1 := q.keep k1
  replace k2 := q.keep k2
  replace k3 := q.keep k3
  replace k4 := q.keep k4
  replace hv := hv.keepB q
  replace g := g.trans q
  clear q
  go_wp2_with fail
  refine (cc_ _).mono ?_
  rintro e w1 ⟨rfl, rfl⟩
  go_wp2_with fail
  refine (cf _).mono ?_
  rintro e w1 ⟨rfl, rfl⟩
  go_wp2_with fail
  refine (ce _).mono ?_
  rintro e w1 ⟨rfl, rfl⟩
  go_wp2
  go_ret
  exact ⟨by simp, g⟩
 ·go_enter Tryz.func62, Tryz.ntmps62
  go_wp2_with fail
  have k0 : (w.alloc (.cells #[.string s, .int .i64 cap, .int .i64 filt, .int .i64 err, .slice ao nn cc] 35)).cell? ⟨w.heap.size, 0, none⟩ = some (.string s) := by simp [go_sem]
  have k1 : (w.alloc (.cells #[.string s, .int .i64 cap, .int .i64 filt, .int .i64 err, .slice ao nn cc] 35)).cell? ⟨w.heap.size, 1, none⟩ = some (.int .i64 cap) := by simp [go_sem]
  have k2 : (w.alloc (.cells #[.string s, .int .i64 cap, .int .i64 filt, .int .i64 err, .slice ao nn cc] 35)).cell? ⟨w.heap.size, 2, none⟩ = some (.int .i64 filt) := by simp [go_sem]
  have k3 : (w.alloc (.cells #[.string s, .int .i64 cap, .int .i64 filt, .int .i64 err, .slice ao nn cc] 35)).cell? ⟨w.heap.size, 3, none⟩ = some (.int .i64 err) := by simp [go_sem]
  have k4 : (w.alloc (.cells #[.string s, .int .i64 cap, .int .i64 filt, .int .i64 err, .slice ao nn cc] 35)).cell? ⟨w.heap.size, 4, none⟩ = some (.slice ao nn cc) := by simp [go_sem]
  have hv := HV.out.keepB ((B.refl w).alloc #[.string s, .int .i64 cap, .int .i64 filt, .int .i64 err, .slice ao nn cc] 35)
  have g := (B.refl w).alloc #[.string s, .int .i64 cap, .int .i64 filt, .int .i64 err, .slice ao nn cc] 35
  generalize w.alloc (.cells #[.string s, .int .i64 cap, .int .i64 filt, .int .i64 err, .slice ao nn cc] 35) = W at *
  refine (cn _).mono ?_
  rintro e w1 ⟨rfl, rfl⟩
  go_wp2_with fail
  refine (cl _ hv).mono ?_
  rintro e w3 ⟨rfl, q⟩
  replace q := q.b
  replace k0 := q.keep k0
  replace k1 := q.keep k1
  replace k2 := q.keep k2
  replace k3 := q.keep k3
  replace k4 := q.keep k4
  replace hv := hv.keepB q
  replace g := g.trans q
  clear q
  go_wp2_with fail
  refine (cc_ _).mono ?_
  rintro e w1 ⟨rfl, rfl⟩
  go_wp2_with fail
  refine (cf _).mono ?_
  rintro e w1 ⟨rfl, rfl⟩
  go_wp2_with fail
  refine (ce _).mono ?_
  rintro e w1 ⟨rfl, rfl⟩
  go_wp2
  go_ret
  exact ⟨by simp, g⟩
end Go.Proofs.YtalnfojaccfcjaaGreatDoor
namespace Go.Proofs.YtalnfojaccfcjaaGreatDoor
open Go.RowKit
theorem r8wnamed_any (wv tv fv : Value) (d : Dk) (s : ByteArray) (w : World) (h : IsDk w wv tv fv d) : Calls Tryz.prog 59 #[.agg #[wv, tv, fv], .string s] w fun e w' => e = .returned (.bool (namedW d.ws s)) ∧ Q w w' := by
 obtain ⟨ao, ac, bo, bc, co, cc, rfl, rfl, rfl⟩ := h.forms
 have hQ := (Q.refl w).alloc #[.slice ao d.ws.length ac, .slice bo d.ts.length bc, .slice co d.fs.length cc] 26
 have hR := h.ws.keepB hQ.b
 have hlen := h.ws.len
 have k0 : (w.alloc (.cells #[.slice ao d.ws.length ac, .slice bo d.ts.length bc, .slice co d.fs.length cc] 26)).cell? ⟨w.heap.size, 0, none⟩ = some (.slice ao d.ws.length ac) := by rw [World.cell?_alloc_new]; rfl
 replace hQ := Lib.hid hQ
 clear h
 go_enter Tryz.func59, Tryz.ntmps59
 go_wp2
 generalize w.alloc (.cells #[.slice ao d.ws.length ac, .slice bo d.ts.length bc, .slice co d.fs.length cc] 26) = W at *
 generalize w.heap.size = H at *
 go_loopw [5] (fun iv wr => ∃ i : Nat, i ≤ d.ws.length ∧ iv = .int .i64 i ∧ (∀ j (hj : j < d.ws.length), j < i → ((d.ws[j]).n.toList == s.toList) = false) ∧ W = wr) (fun iv _ => d.ws.length + 1 - (intOf iv).toNat)
 case atStart => exact ⟨0, Nat.zero_le _, rfl, fun j _ hj => by omega, rfl⟩
 case round =>
  obtain ⟨i, hi, rfl, hall, rfl⟩ := hrel
  by_cases hl : i < d.ws.length
  ·have hlB : decide ((i : Int) < (d.ws.length : Int)) = true := decide_eq_true (by omega)
   have hlI : (i : Int) < (d.ws.length : Int) := by omega
   have hi0 : (0 : Int) ≤ (i : Int) := by omega
   have wk1 : IntKind.i64.wrap ((i : Int) + 1) = (i : Int) + 1 := by rw [IntKind.wrap_i64]; omega
   obtain ⟨a, cap, e1, _, _, hr⟩ := hR.at_ hl
   obtain ⟨rfl, _, rfl⟩ : ao = some a ∧ True ∧ ac = cap := by simpa using e1
   have hn := hr.n
   cases hc : (d.ws[i]).n.toList == s.toList
   ·have HA := Lib.hid (show ∀ j (hj : j < d.ws.length), j < i + 1 → ((d.ws[j]).n.toList == s.toList) = false from fun j hj hj2 => by
     by_cases c : j = i
     ·subst c; exact hc
     ·exact hall j hj (by omega))
    have HL := Lib.hid hl
    generalize d.ws[i].n = N at *
    clear hall hr hR e1 hl hi hlen
    go_wp2
    go_roundw
    case rel => exact ⟨i + 1, by have := HL.out; omega, by go_num, HA.out, trivial⟩
    case measure => have := HL.out; simp [intOf]; omega
   ·have hy := Lib.hid (named_yes hl hc)
    generalize d.ws[i].n = N at *
    clear hall hr hR e1 hi hlen
    go_wp2
    go_ret
    exact ⟨by rw [hy.out]; rfl, hQ.out⟩
  ·have hlB : decide ((i : Int) < (d.ws.length : Int)) = false := decide_eq_false (by omega)
   have hno := Lib.hid (named_no (ws := d.ws) (s := s) (fun j hj => hall j hj (by omega)))
   clear hall hR hi hlen
   go_wp2
   go_ret
   exact ⟨by rw [hno.out]; rfl, hQ.out⟩
theorem r8tnamed_any (wv tv fv : Value) (d : Dk) (s : ByteArray) (w : World) (h : IsDk w wv tv fv d) : Calls Tryz.prog 63 #[.agg #[wv, tv, fv], .string s] w fun e w' => e = .returned (.bool (namedW d.ts s)) ∧ Q w w' := by
 obtain ⟨ao, ac, bo, bc, co, cc, rfl, rfl, rfl⟩ := h.forms
 have hQ := (Q.refl w).alloc #[.slice ao d.ws.length ac, .slice bo d.ts.length bc, .slice co d.fs.length cc] 26
 have hR := h.ts.keepB hQ.b
 have hlen := h.ts.len
 have k0 : (w.alloc (.cells #[.slice ao d.ws.length ac, .slice bo d.ts.length bc, .slice co d.fs.length cc] 26)).cell? ⟨w.heap.size, 1, none⟩ = some (.slice bo d.ts.length bc) := by rw [World.cell?_alloc_new]; rfl
 replace hQ := Lib.hid hQ
 clear h
 go_enter Tryz.func63, Tryz.ntmps63
 go_wp2
 generalize w.alloc (.cells #[.slice ao d.ws.length ac, .slice bo d.ts.length bc, .slice co d.fs.length cc] 26) = W at *
 generalize w.heap.size = H at *
 go_loopw [5] (fun iv wr => ∃ i : Nat, i ≤ d.ts.length ∧ iv = .int .i64 i ∧ (∀ j (hj : j < d.ts.length), j < i → ((d.ts[j]).n.toList == s.toList) = false) ∧ W = wr) (fun iv _ => d.ts.length + 1 - (intOf iv).toNat)
 case atStart => exact ⟨0, Nat.zero_le _, rfl, fun j _ hj => by omega, rfl⟩
 case round =>
  obtain ⟨i, hi, rfl, hall, rfl⟩ := hrel
  by_cases hl : i < d.ts.length
  ·have hlB : decide ((i : Int) < (d.ts.length : Int)) = true := decide_eq_true (by omega)
   have hlI : (i : Int) < (d.ts.length : Int) := by omega
   have hi0 : (0 : Int) ≤ (i : Int) := by omega
   have wk1 : IntKind.i64.wrap ((i : Int) + 1) = (i : Int) + 1 := by rw [IntKind.wrap_i64]; omega
   obtain ⟨a, cap, e1, _, _, hr⟩ := hR.at_ hl
   obtain ⟨rfl, _, rfl⟩ : bo = some a ∧ True ∧ bc = cap := by simpa using e1
   have hn := hr.n
   cases hc : (d.ts[i]).n.toList == s.toList
   ·have HA := Lib.hid (show ∀ j (hj : j < d.ts.length), j < i + 1 → ((d.ts[j]).n.toList == s.toList) = false from fun j hj hj2 => by
     by_cases c : j = i
     ·subst c; exact hc
     ·exact hall j hj (by omega))
    have HL := Lib.hid hl
    generalize d.ts[i].n = N at *
    clear hall hr hR e1 hl hi hlen
    go_wp2
    go_roundw
    case rel => exact ⟨i + 1, by have := HL.out; omega, by go_num, HA.out, trivial⟩
    case measure => have := HL.out; simp [intOf]; omega
   ·have hy := Lib.hid (named_yes hl hc)
    generalize d.ts[i].n = N at *
    clear hall hr hR e1 hi hlen
    go_wp2
    go_ret
    exact ⟨by rw [hy.out]; rfl, hQ.out⟩
  ·have hlB : decide ((i : Int) < (d.ts.length : Int)) = false := decide_eq_false (by omega)
   have hno := Lib.hid (named_no (ws := d.ts) (s := s) (fun j hj => hall j hj (by omega)))
   clear hall hR hi hlen
   go_wp2
   go_ret
   exact ⟨by rw [hno.out]; rfl, hQ.out⟩
end Go.Proofs.YtalnfojaccfcjaaGreatDoor
namespace Go.Proofs.YtalnfojaccfcjaaGreatDoor
open Go.RowKit
def isFill (f : Fl) (n : ByteArray) (r c : Int) : Bool := (f.n.toList == n.toList) && decide (f.r = r) && decide (f.c = c)
theorem filled_yes {fs : List Fl} {n : ByteArray} {r c : Int} {i : Nat} (hi : i < fs.length) (h : isFill fs[i] n r c = true) : filledW fs n r c = true := List.any_eq_true.2 ⟨_, List.getElem_mem hi, h⟩
theorem filled_no {fs : List Fl} {n : ByteArray} {r c : Int} (h : ∀ i (hi : i < fs.length), isFill fs[i] n r c = false) : filledW fs n r c = false := by
 refine List.any_eq_false.2 fun x hx => ?_
 obtain ⟨i, hi, rfl⟩ := List.getElem_of_mem hx
 have := h i hi
 unfold isFill at this
 rw [this]
 decide
set_option maxHeartbeats 1000000 in
theorem r8filled_any (wv tv fv : Value) (d : Dk) (n : ByteArray) (r c : Int) (w : World) (h : IsDk w wv tv fv d) : Calls Tryz.prog 65 #[.agg #[wv, tv, fv], .agg #[.string n, .int .i64 r, .int .i64 c]] w fun e w' => e = .returned (.bool (filledW d.fs n r c)) ∧ Q w w' := by
 obtain ⟨ao, ac, bo, bc, co, cc, rfl, rfl, rfl⟩ := h.forms
 have hQ := ((Q.refl w).alloc #[.slice ao d.ws.length ac, .slice bo d.ts.length bc, .slice co d.fs.length cc] 26).alloc #[.string n, .int .i64 r, .int .i64 c] 39
 have hR := h.fs.keepB hQ.b
 have hlen := h.fs.len
 obtain ⟨W, hW⟩ : ∃ W, (w.alloc (.cells #[.slice ao d.ws.length ac, .slice bo d.ts.length bc, .slice co d.fs.length cc] 26)).alloc (.cells #[.string n, .int .i64 r, .int .i64 c] 39) = W := ⟨_, rfl⟩
 have k0 : W.cell? ⟨w.heap.size, 2, none⟩ = some (.slice co d.fs.length cc) := by rw [← hW]; exact ((Q.refl _).alloc _ _).keep (by rw [World.cell?_alloc_new]; rfl)
 have e1 : (w.alloc (.cells #[.slice ao d.ws.length ac, .slice bo d.ts.length bc, .slice co d.fs.length cc] 26)).heap.size = w.heap.size + 1 := by simp
 have k1 : W.cell? ⟨w.heap.size + 1, 0, none⟩ = some (.string n) := by rw [← hW, ← e1, World.cell?_alloc_new]; rfl
 have k2 : W.cell? ⟨w.heap.size + 1, 1, none⟩ = some (.int .i64 r) := by rw [← hW, ← e1, World.cell?_alloc_new]; rfl
 have k3 : W.cell? ⟨w.heap.size + 1, 2, none⟩ = some (.int .i64 c) := by rw [← hW, ← e1, World.cell?_alloc_new]; rfl
 rw [hW] at hR hQ
 replace hQ := Lib.hid hQ
 clear h e1
 go_enter Tryz.func65, Tryz.ntmps65
 go_wp2
 try rw [hW]
 clear hW
 generalize w.heap.size = H at *
 go_loopw [5] (fun iv wr => ∃ i : Nat, i ≤ d.fs.length ∧ iv = .int .i64 i ∧ (∀ j (hj : j < d.fs.length), j < i → isFill d.fs[j] n r c = false) ∧ Q W wr) (fun iv _ => d.fs.length + 1 - (intOf iv).toNat)
 case atStart => exact ⟨0, Nat.zero_le _, rfl, fun j _ hj => by omega, Q.refl _⟩
 case round =>
  obtain ⟨i, hi, rfl, hall, hQi⟩ := hrel
  by_cases hl : i < d.fs.length
  ·have hlB : decide ((i : Int) < (d.fs.length : Int)) = true := decide_eq_true (by omega)
   have hlI : (i : Int) < (d.fs.length : Int) := by omega
   have hi0 : (0 : Int) ≤ (i : Int) := by omega
   have wk1 : IntKind.i64.wrap ((i : Int) + 1) = (i : Int) + 1 := by rw [IntKind.wrap_i64]; omega
   obtain ⟨a, cap, e1, _, _, hr⟩ := (hR.keepB hQi.b).at_ hl
   obtain ⟨rfl, _, rfl⟩ : co = some a ∧ True ∧ cc = cap := by simpa using e1
   obtain ⟨F, hF⟩ : ∃ F, d.fs[i] = F := ⟨_, rfl⟩
   rw [hF] at hr
   obtain ⟨g1, g2, g3, _⟩ := hr
   replace k0 := hQi.keep k0
   replace k1 := hQi.keep k1
   replace k2 := hQi.keep k2
   replace k3 := hQi.keep k3
   have HQ := Lib.hid (hQ.out.trans hQi)
   have HQi := Lib.hid hQi
   clear hQi hR e1
   have q2' : decide (F.r = r) = (F.r == r) := by by_cases h : F.r = r <;> simp [h]
   have q3' : decide (F.c = c) = (F.c == c) := by by_cases h : F.c = c <;> simp [h]
   cases q1 : (F.n.toList == n.toList)
   ·have hf : isFill F n r c = false := by unfold isFill; rw [q1]; simp
    have HA := Lib.hid (show ∀ j (hj : j < d.fs.length), j < i + 1 → isFill d.fs[j] n r c = false from fun j hj hj2 => by
     by_cases x : j = i
     ·subst x; rw [hF]; exact hf
     ·exact hall j hj (by omega))
    have HL := Lib.hid hl
    clear q2' q3' hF
    clear hall hl hi hlen hf
    go_wp2_with fail
    go_quiet (fail)
    go_wp2
    go_roundw
    case rel => exact ⟨i + 1, by have := HL.out; omega, by go_num, HA.out, HQi.out.trans (show Dr _ _ from ⟨_, rfl⟩).q⟩
    case measure => have := HL.out; simp [intOf]; omega
   cases q2 : (F.r == r)
   ·have hf : isFill F n r c = false := by unfold isFill; rw [q2', q2]; simp
    have HA := Lib.hid (show ∀ j (hj : j < d.fs.length), j < i + 1 → isFill d.fs[j] n r c = false from fun j hj hj2 => by
     by_cases x : j = i
     ·subst x; rw [hF]; exact hf
     ·exact hall j hj (by omega))
    have HL := Lib.hid hl
    clear q2' q3' hF
    clear hall hl hi hlen hf
    go_wp2_with fail
    go_quiet (fail)
    go_wp2
    go_roundw
    case rel => exact ⟨i + 1, by have := HL.out; omega, by go_num, HA.out, HQi.out.trans (show Dr _ _ from ⟨_, rfl⟩).q⟩
    case measure => have := HL.out; simp [intOf]; omega
   cases q3 : (F.c == c)
   ·have hf : isFill F n r c = false := by unfold isFill; rw [q3', q3]; simp
    have HA := Lib.hid (show ∀ j (hj : j < d.fs.length), j < i + 1 → isFill d.fs[j] n r c = false from fun j hj hj2 => by
     by_cases x : j = i
     ·subst x; rw [hF]; exact hf
     ·exact hall j hj (by omega))
    have HL := Lib.hid hl
    clear q2' q3' hF
    clear hall hl hi hlen hf
    go_wp2_with fail
    go_quiet (fail)
    go_wp2
    go_roundw
    case rel => exact ⟨i + 1, by have := HL.out; omega, by go_num, HA.out, HQi.out.trans (show Dr _ _ from ⟨_, rfl⟩).q⟩
    case measure => have := HL.out; simp [intOf]; omega
   ·have hy := Lib.hid (filled_yes (n := n) (r := r) (c := c) hl (by rw [hF]; unfold isFill; rw [q1, q2', q2, q3', q3]; rfl))
    clear q2' q3' hF
    clear hall hi hlen
    go_wp2_with fail
    go_quiet (fail)
    go_wp2
    go_ret
    exact ⟨by rw [hy.out]; rfl, HQ.out.trans (show Dr _ _ from ⟨_, rfl⟩).q⟩
  ·have hlB : decide ((i : Int) < (d.fs.length : Int)) = false := decide_eq_false (by omega)
   replace k0 := hQi.keep k0
   have hno := Lib.hid (filled_no (fs := d.fs) (n := n) (r := r) (c := c) (fun j hj => hall j hj (by omega)))
   have HQ := Lib.hid (hQ.out.trans hQi)
   clear hall hR hi hlen hQi
   go_wp2
   go_ret
   exact ⟨by rw [hno.out]; rfl, HQ.out⟩
end Go.Proofs.YtalnfojaccfcjaaGreatDoor
