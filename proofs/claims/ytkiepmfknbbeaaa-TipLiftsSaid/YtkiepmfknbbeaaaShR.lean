/-
  Contracts of layer 3: which shapes may be.
-/
import Derived.Test.YtkiepmfknbbeaaaShS
namespace Go.Proofs.Ytkiepmfknbbeaaa
open Go.RowKit

def RightC : Prop := ∀ (v : Value) (l : List Sec) (w : World), IsSecs w v l → Calls Try.prog 30 #[v] w fun e w' => e = .returned (.bool (rightS l)) ∧ B w w'

/-- Its sides are those of a piece. -/
def soundS (s : Sec) : Bool := boundS s && (s.a1 != 0) && (if s.r then (s.b0 == 0) && (s.b1 == 0) else decide (0 < s.b1))
set_option maxHeartbeats 1000000 in
theorem sound_any (r : Bool) (h a0 b0 a1 b1 : Int) (w : World) :
    Calls Try.prog 53 #[.agg #[.bool r, .int .i64 h, .int .i64 a0, .int .i64 b0, .int .i64 a1, .int .i64 b1]] w fun e w' => e = .returned (.bool (soundS ⟨r, h, a0, b0, a1, b1⟩)) ∧ Q w w' := by
  have cB := fun w => bounded_any r h a0 b0 a1 b1 w
  have hS : soundS ⟨r, h, a0, b0, a1, b1⟩ = (boundS ⟨r, h, a0, b0, a1, b1⟩ && (a1 != 0) && (if r then (b0 == 0) && (b1 == 0) else decide (0 < b1))) := rfl
  generalize boundS ⟨r, h, a0, b0, a1, b1⟩ = B0 at *
  rw [hS]
  clear hS
  have hA : ((a1 == 0) = true ∧ (a1 != 0) = false) ∨ ((a1 == 0) = false ∧ (a1 != 0) = true) := by by_cases a1 = 0 <;> simp [*]
  have hZ : (b0 == 0) = true ∨ (b0 == 0) = false := by cases (b0 == 0) <;> simp
  cases B0
  · simp only [Bool.false_and]
    go_enter Try.func53, Try.ntmps53
    go_wp2_with fail
    refine (cB _).mono ?_
    rintro e w1 ⟨rfl, g⟩
    replace g := ((Q.refl w).alloc _ _).trans g
    go_wp2
    go_ret
    exact ⟨rfl, g⟩
  rcases hA with ⟨a2, a3⟩ | ⟨a2, a3⟩
  · rw [a3]
    simp only [Bool.false_and, Bool.and_false]
    go_enter Try.func53, Try.ntmps53
    go_wp2_with fail
    refine (cB _).mono ?_
    rintro e w1 ⟨rfl, g⟩
    have z4 := g.keep (p := ⟨w.heap.size, 4, none⟩) (v := .int .i64 a1) (by simp [go_sem])
    replace g := ((Q.refl w).alloc _ _).trans g
    go_wp2
    go_ret
    exact ⟨rfl, g⟩
  rw [a3]
  cases r
  · go_enter Try.func53, Try.ntmps53
    go_wp2_with fail
    refine (cB _).mono ?_
    rintro e w1 ⟨rfl, g⟩
    have z0 := g.keep (p := ⟨w.heap.size, 0, none⟩) (v := .bool false) (by simp [go_sem])
    have z1 := g.keep (p := ⟨w.heap.size, 1, none⟩) (v := .int .i64 h) (by simp [go_sem])
    have z2 := g.keep (p := ⟨w.heap.size, 2, none⟩) (v := .int .i64 a0) (by simp [go_sem])
    have z3 := g.keep (p := ⟨w.heap.size, 3, none⟩) (v := .int .i64 b0) (by simp [go_sem])
    have z4 := g.keep (p := ⟨w.heap.size, 4, none⟩) (v := .int .i64 a1) (by simp [go_sem])
    have z5 := g.keep (p := ⟨w.heap.size, 5, none⟩) (v := .int .i64 b1) (by simp [go_sem])
    replace g := ((Q.refl w).alloc _ _).trans g
    go_wp2
    go_ret
    exact ⟨by simp, g⟩
  rcases hZ with hZ | hZ
  all_goals
    rw [hZ]
    go_enter Try.func53, Try.ntmps53
    go_wp2_with fail
    refine (cB _).mono ?_
    rintro e w1 ⟨rfl, g⟩
    have z0 := g.keep (p := ⟨w.heap.size, 0, none⟩) (v := .bool true) (by simp [go_sem])
    have z1 := g.keep (p := ⟨w.heap.size, 1, none⟩) (v := .int .i64 h) (by simp [go_sem])
    have z2 := g.keep (p := ⟨w.heap.size, 2, none⟩) (v := .int .i64 a0) (by simp [go_sem])
    have z3 := g.keep (p := ⟨w.heap.size, 3, none⟩) (v := .int .i64 b0) (by simp [go_sem])
    have z4 := g.keep (p := ⟨w.heap.size, 4, none⟩) (v := .int .i64 a1) (by simp [go_sem])
    have z5 := g.keep (p := ⟨w.heap.size, 5, none⟩) (v := .int .i64 b1) (by simp [go_sem])
    replace g := ((Q.refl w).alloc _ _).trans g
    go_wp2
    go_ret
    exact ⟨by simp, g⟩

theorem secOk_sound (s : Sec) (m : Int) (hm : s.h.tmod 100 = m) : secOk s = (!(decide (s.h < 1)) && !(decide (60000 < s.h)) && !(m != 0) && soundS s) := by
  rw [secOk_eq s m hm]
  have e : soundS s = (inB s.a0 0 20000 && inB s.a1 1 20000 && (if s.r then !(s.b0 != 0) && !(s.b1 != 0) else inB s.b0 0 20000 && inB s.b1 1 20000)) := by
    unfold soundS boundS inB
    cases hr : s.r
    · rw [Bool.eq_iff_iff]
      simp
      omega
    · rw [Bool.eq_iff_iff]
      simp
      omega
  rw [e]
  simp only [Bool.and_assoc]
theorem hsum_mono (l : List Sec) (hl : ∀ s ∈ l, 0 ≤ s.h) (j n : Nat) (hjn : j ≤ n) : hsumI l j ≤ hsumI l n := by
  induction n with
  | zero => obtain rfl : j = 0 := by omega
            omega
  | succ n ih =>
    by_cases e : j = n + 1
    · subst e; omega
    · have h1 := ih (by omega)
      cases hg : l[n]? with
      | none =>
        have e1 : l.take (n + 1) = l.take n := by rw [List.take_add_one, hg]; simp
        unfold hsumI at *
        rw [e1]; exact h1
      | some s =>
        have := hl s (List.mem_of_getElem? hg)
        rw [hsumI_succ l n s hg]
        omega
theorem rightS_over (l : List Sec) (k : Nat) (s : Sec) (h : l[k]? = some s) (ho : 60000 < hsumI l k + s.h) : rightS l = false := by
  cases e : rightS l
  · rfl
  · unfold rightS at e
    simp only [Bool.and_eq_true, decide_eq_true_eq, List.all_eq_true] at e
    obtain ⟨⟨_, ha⟩, hs⟩ := e
    have hk : k < l.length := by
      rw [List.getElem?_eq_some_iff] at h
      exact h.1
    have := hsum_mono l (fun s hs => by have := secOk_h s (ha s hs); omega) (k + 1) l.length (by omega)
    rw [hsumI_succ l k s h] at this
    omega

set_option maxRecDepth 100000 in
set_option maxHeartbeats 2000000 in
theorem right_row (a : Addr) (cap : Nat) (l : List Sec) (h2 : l.length ≤ cap) (h3 : cap ≤ maxLen) (w : World) (h4 : ∀ i s, l[i]? = some s → s.I ∧ SecAt w (a.add (i * 6)) s) :
    Calls Try.prog 30 #[.slice (some a) l.length cap] w fun e w' => e = .returned (.bool (rightS l)) ∧ Q w w' := by
  unfold maxLen at h3
  have h5 : l.length ≤ 2 ^ 63 - 1 := Nat.le_trans h2 h3
  clear h2 h3
  by_cases n1 : l.length < 1
  · rw [rightS_short l n1]
    have n1B : decide ((l.length : Int) < 1) = true := decide_eq_true (by omega)
    clear h4
    go_enter Try.func30, Try.ntmps30
    go_wp2
    go_ret
    exact ⟨rfl, Q.refl w⟩
  have n1B : decide ((l.length : Int) < 1) = false := decide_eq_false (by omega)
  by_cases n2 : 4 < l.length
  · rw [rightS_long l n2]
    have n2B : decide ((4 : Int) < (l.length : Int)) = true := decide_eq_true (by omega)
    clear h4
    go_enter Try.func30, Try.ntmps30
    go_wp2
    go_ret
    exact ⟨rfl, Q.refl w⟩
  have n2B : decide ((4 : Int) < (l.length : Int)) = false := decide_eq_false (by omega)
  go_enter Try.func30, Try.ntmps30
  go_wp2
  go_loopw [3, 16] (fun lf i wr => ∃ (k : Nat), k ≤ l.length ∧ i = .int .i64 k ∧ lf = .int .i64 (60000 - hsumI l k) ∧ 0 ≤ hsumI l k ∧ hsumI l k ≤ 60000 ∧ okTo l k = true ∧ Q w wr) (fun _ i _ => l.length - (intOf i).toNat)
  case atStart => exact ⟨0, Nat.zero_le _, rfl, rfl, by simp [hsumI], by simp [hsumI], rfl, Q.refl w⟩
  case round =>
    obtain ⟨k, hk, rfl, rfl, t1, t2, hok, hq⟩ := hrel
    by_cases hl : k < l.length
    · have hlB : decide (k < l.length) = true := decide_eq_true hl
      have hg := List.getElem?_eq_getElem hl
      have hs := (h4 k _ hg).2.keep hq
      have hsu := hsumI_succ l k _ hg
      have hoku := okTo_succ l k _ hg hok
      have hbad := rightS_bad l k _ hg
      have hover := rightS_over l k _ hg
      clear h4 hok
      generalize l[k] = s at *
      generalize hsumI l k = t at *
      obtain ⟨r, h, a0, b0, a1, b1⟩ := s
      obtain ⟨f0, f1, f2, f3, f4, f5⟩ := hs
      obtain ⟨m, hm1⟩ : ∃ m, h.tmod 100 = m := ⟨_, rfl⟩
      have hsec := secOk_sound ⟨r, h, a0, b0, a1, b1⟩ m hm1
      have cS := fun w => sound_any r h a0 b0 a1 b1 w
      obtain ⟨lf, hlf⟩ : ∃ lf, 60000 - t = lf := ⟨_, rfl⟩
      rw [hlf]
      simp only at f0 f1 f2 f3 f4 f5 hsu hsec hover
      have HS := Lib.hid hsu
      have HM := Lib.hid hg
      clear hsu hg
      by_cases k1' : h < 1
      · have k1 : decide (h < 1) = true := decide_eq_true k1'
        have HB := Lib.hid (hbad (by rw [hsec]; simp [k1]))
        clear hbad hsec hoku hover cS
        go_wp2
        go_ret
        exact ⟨by rw [HB.out]; rfl, hq.alloc _ _⟩
      have k1 : decide (h < 1) = false := decide_eq_false k1'
      by_cases k2' : lf < h
      · have k2 : decide (lf < h) = true := decide_eq_true k2'
        have HB := Lib.hid (hover (by omega))
        clear hbad hsec hoku hover cS
        go_wp2
        go_ret
        exact ⟨by rw [HB.out]; rfl, hq.alloc _ _⟩
      have k2 : decide (lf < h) = false := decide_eq_false k2'
      have k2b : decide (60000 < h) = false := decide_eq_false (by omega)
      have k3 : (m != 0) = true ∨ (m != 0) = false := by cases (m != 0) <;> simp
      rcases k3 with k3 | k3
      · have HB := Lib.hid (hbad (by rw [hsec]; simp [k1, k2b, k3]))
        clear hbad hsec hoku hover cS k2b
        go_wp2
        go_ret
        exact ⟨by rw [HB.out]; rfl, hq.alloc _ _⟩
      generalize soundS ⟨r, h, a0, b0, a1, b1⟩ = s0 at *
      cases s0
      · have HB := Lib.hid (hbad (by rw [hsec]; simp))
        clear hbad hsec hoku hover k2b
        go_wp2_with fail
        refine (cS _).mono ?_
        rintro e w1 ⟨rfl, g⟩
        replace g := (hq.alloc _ _).trans g
        go_wp2
        go_ret
        exact ⟨by rw [HB.out]; rfl, g⟩
      · have HO := Lib.hid (hoku (by rw [hsec]; simp [k1, k2b, k3]))
        have e1 : IntKind.i64.wrap (lf - h) = lf - h := wrapI (by omega) (by omega)
        clear hbad hsec hoku hover k2b
        go_wp2_with fail
        refine (cS _).mono ?_
        rintro e w1 ⟨rfl, g⟩
        have z1 := g.keep (p := ⟨wr.heap.size, 1, none⟩) (v := .int .i64 h) (by simp [go_sem])
        replace g := (hq.alloc _ _).trans g
        go_wp2
        go_roundw
        case rel => exact ⟨k + 1, by omega, by go_num, by rw [HS.out]; congr 1; omega, by rw [HS.out]; omega, by rw [HS.out]; omega, HO.out, g⟩
        case measure => simp [intOf]; omega
    · have hlB : decide (k < l.length) = false := decide_eq_false hl
      obtain rfl : k = l.length := by omega
      have HE := Lib.hid ((rightS_end l (by omega) (by omega) hok).trans (decide_eq_true t2))
      clear h4 hok
      go_wp2
      go_ret
      exact ⟨by rw [HE.out]; rfl, hq⟩

theorem right_code : RightC := by
  intro v l w hv
  rcases hv with ⟨rfl, rfl⟩ | ⟨a, cap, rfl, h2, h3, h4⟩
  · rw [rightS_short [] (by simp)]
    go_enter Try.func30, Try.ntmps30
    go_wp2
    go_ret
    exact ⟨rfl, B.refl w⟩
  · exact (right_row a cap l h2 h3 w h4).mono fun _ _ h => ⟨h.1, h.2.b⟩
end Go.Proofs.Ytkiepmfknbbeaaa
