/-
  Contracts of layer 3: bounds of sides, a side at a height.
-/
import Derived.Test.YthibjkjdimgipaaDoorL3a
import Derived.Test.YthibjkjdimgipaaDoorSecp
import Derived.KernelRfl
import Derived.Test.YthibjkjdimgipaaDoorQmd
import Derived.Lib.MinMax
namespace Go.Proofs.YthibjkjdimgipaaDoor
open Go.RowKit

/-- Its sides are bounded. -/
def boundS (s : Sec) : Bool := inB s.a0 0 20000 && inB s.b0 0 20000 && inB s.a1 0 20000 && inB s.b1 0 20000
def sideNo (s : Sec) (k : Nat) : Int := [s.a0, s.b0, s.a1, s.b1].getD k 0
theorem inB_no {x : Int} (h : inB x 0 20000 = true) : decide (x < 0) = false ∧ decide (20000 < x) = false := by
  unfold inB at h
  simp only [Bool.and_eq_true, decide_eq_true_eq] at h
  exact ⟨decide_eq_false (by omega), decide_eq_false (by omega)⟩
theorem inB_ways (x : Int) : (inB x 0 20000 = true ∧ decide (x < 0) = false ∧ decide (20000 < x) = false) ∨ (inB x 0 20000 = false ∧ decide (x < 0) = true) ∨ (inB x 0 20000 = false ∧ decide (x < 0) = false ∧ decide (20000 < x) = true) := by
  unfold inB
  by_cases h1 : x < 0
  · exact .inr (.inl ⟨by simp; omega, decide_eq_true h1⟩)
  · by_cases h2 : 20000 < x
    · exact .inr (.inr ⟨by simp; omega, decide_eq_false h1, decide_eq_true h2⟩)
    · exact .inl ⟨by simp; omega, decide_eq_false h1, decide_eq_false h2⟩

theorem boundS_no (s : Sec) (k : Nat) (hk : k < 4) (h : inB (sideNo s k) 0 20000 = false) : boundS s = false := by
  unfold boundS
  match k, hk with
  | 0, _ => have h' : inB s.a0 0 20000 = false := h; rw [h']; simp
  | 1, _ => have h' : inB s.b0 0 20000 = false := h; rw [h']; simp
  | 2, _ => have h' : inB s.a1 0 20000 = false := h; rw [h']; simp
  | 3, _ => have h' : inB s.b1 0 20000 = false := h; rw [h']; simp
theorem boundS_yes (s : Sec) (h : ∀ j, j < 4 → inB (sideNo s j) 0 20000 = true) : boundS s = true := by
  unfold boundS
  have h0 : inB s.a0 0 20000 = true := h 0 (by omega)
  have h1 : inB s.b0 0 20000 = true := h 1 (by omega)
  have h2 : inB s.a1 0 20000 = true := h 2 (by omega)
  have h3 : inB s.b1 0 20000 = true := h 3 (by omega)
  rw [h0, h1, h2, h3]; rfl

/-- A place of an array of four numbers. -/
theorem arr4_get (x : Nat → Int) (k : Nat) (hk : k < 4) (w : World) : (Instr.index 41 (Value.agg #[.int .i64 (x 0), .int .i64 (x 1), .int .i64 (x 2), .int .i64 (x 3)]) (Value.int .i64 (k : Int))).run Tryd.prog w = .ok (.int .i64 (x k)) w := by
  have hu : Tryd.prog.underlying 41 = some (.array 4 2) := by kernel_rfl
  match k, hk with
  | 0, _ => simp [Instr.index, run_underlying hu, asIntOf, part, go_sem]
  | 1, _ => simp [Instr.index, run_underlying hu, asIntOf, part, go_sem]
  | 2, _ => simp [Instr.index, run_underlying hu, asIntOf, part, go_sem]
  | 3, _ => simp [Instr.index, run_underlying hu, asIntOf, part, go_sem]

set_option maxHeartbeats 1000000 in
theorem bounded_any (r : Bool) (h a0 b0 a1 b1 : Int) (w : World) :
    Calls Tryd.prog 16 #[.agg #[.bool r, .int .i64 h, .int .i64 a0, .int .i64 b0, .int .i64 a1, .int .i64 b1]] w fun e w' => e = .returned (.bool (boundS ⟨r, h, a0, b0, a1, b1⟩)) ∧ Q w w' := by
  have hno := boundS_no ⟨r, h, a0, b0, a1, b1⟩
  have hyes := boundS_yes ⟨r, h, a0, b0, a1, b1⟩
  have hg := fun k hk w => arr4_get (sideNo ⟨r, h, a0, b0, a1, b1⟩) k hk w
  change ∀ k : Nat, k < 4 → ∀ w : World, (Instr.index 41 (Value.agg #[.int .i64 a0, .int .i64 b0, .int .i64 a1, .int .i64 b1]) (Value.int .i64 (k : Int))).run Tryd.prog w = .ok (.int .i64 (sideNo ⟨r, h, a0, b0, a1, b1⟩ k)) w at hg
  generalize hB : boundS ⟨r, h, a0, b0, a1, b1⟩ = B0 at *
  clear hB
  go_enter Tryd.func16, Tryd.ntmps16
  go_wp2
  have hq := (Q.refl w).alloc #[.bool r, .int .i64 h, .int .i64 a0, .int .i64 b0, .int .i64 a1, .int .i64 b1] 27
  generalize w.alloc _ = W1 at *
  go_loop [14] (fun i => ∃ k : Nat, k ≤ 4 ∧ i = .int .i64 k ∧ ∀ j, j < k → inB (sideNo ⟨r, h, a0, b0, a1, b1⟩ j) 0 20000 = true) (fun i => 4 - (intOf i).toNat)
  case atStart => exact ⟨0, Nat.zero_le _, rfl, fun j hj => absurd hj (by omega)⟩
  case round =>
    obtain ⟨k, hk, rfl, hall⟩ := hrel
    by_cases hl : k < 4
    · have hlB : decide ((k : Int) < 4) = true := decide_eq_true (by omega)
      have ho := hno k hl
      have hx := hg k hl
      have hw := inB_ways (sideNo ⟨r, h, a0, b0, a1, b1⟩ k)
      have hn : inB (sideNo ⟨r, h, a0, b0, a1, b1⟩ k) 0 20000 = true → ∀ j, j < k + 1 → inB (sideNo ⟨r, h, a0, b0, a1, b1⟩ j) 0 20000 = true := fun hk j hj => by
        by_cases e : j = k
        · rw [e]; exact hk
        · exact hall j (by omega)
      clear hall hno hyes hg
      rcases hw with ⟨e0, e1, e2⟩ | ⟨e0, e1⟩ | ⟨e0, e1, e2⟩
      · have HN := Lib.hid (hn e0)
        clear hn ho
        go_wp2
        go_round
        case rel => exact ⟨k + 1, by omega, by go_num, HN.out⟩
        case measure => simp [intOf]; omega
      · have HO := Lib.hid (ho e0)
        clear hn ho
        go_wp2
        go_ret
        exact ⟨by rw [HO.out]; rfl, hq⟩
      · have HO := Lib.hid (ho e0)
        clear hn ho
        go_wp2
        go_ret
        exact ⟨by rw [HO.out]; rfl, hq⟩
    · have hlB : decide ((k : Int) < 4) = false := decide_eq_false (by omega)
      obtain rfl : k = 4 := by omega
      have HY := Lib.hid (hyes hall)
      clear hno hyes hg hall
      go_wp2
      go_ret
      exact ⟨by rw [HY.out]; rfl, hq⟩

theorem between_any (x0 x1 at_ h : Int) (up : Bool) (a0 : 0 ≤ x0) (b0 : x0 ≤ 20000) (a1 : 0 ≤ x1) (b1 : x1 ≤ 20000) (h0 : 0 ≤ at_) (h1 : at_ ≤ h) (hh : 1 ≤ h) (hI : I64 h) (w : World) :
    Calls Tryd.prog 17 #[.int .i64 x0, .int .i64 x1, .int .i64 at_, .int .i64 h, .bool up] w fun e w' => e = .returned (.int .i64 (sideM x0 x1 at_ h up)) ∧ Q w w' := by
  obtain ⟨f1, f2, f3, f4⟩ := side_fits a0 b0 a1 b1 h0 h1 hh up
  have c := fun w => muldiv_any (x1 - x0) at_ h up (by unfold I64; omega) (by unfold I64 at *; omega) hI w
  have e1 : IntKind.i64.wrap (x1 - x0) = x1 - x0 := wrapI (by omega) (by omega)
  unfold sideM at *
  generalize mv (x1 - x0) at_ h up = g at *
  generalize me (x1 - x0) at_ h up = g' at *
  have e2 : IntKind.i64.wrap (x0 + g) = x0 + g := wrapI (by omega) (by omega)
  clear f1 f2 f3 f4
  go_enter Tryd.func17, Tryd.ntmps17
  go_wp2_with fail
  refine (c _).mono ?_
  rintro e w1 ⟨rfl, h⟩
  go_wp2
  go_ret
  exact ⟨rfl, h.q⟩

set_option maxHeartbeats 2000000 in
theorem side_code : SideC := by
  intro r h a0 b0 a1 b1 at_ up w hI hat
  obtain ⟨i1, i2, i3, i4, i5⟩ := hI
  simp only at i1 i2 i3 i4 i5
  have cB := fun w => bounded_any r h a0 b0 a1 b1 w
  by_cases hh : h < 1
  · have hB : decide (h < 1) = true := decide_eq_true hh
    have e : sideOf ⟨r, h, a0, b0, a1, b1⟩ at_ up = (0, 0) := if_neg (fun x => by have := x.1; simp only at this; omega)
    rw [e]
    go_enter Tryd.func10, Tryd.ntmps10
    go_wp2
    go_ret2
    exact ⟨rfl, ((Q.refl w).alloc _ _).b⟩
  have hB : decide (h < 1) = false := decide_eq_false hh
  by_cases hb : boundS ⟨r, h, a0, b0, a1, b1⟩ = true
  · rw [hb] at cB
    unfold boundS at hb
    simp only [Bool.and_eq_true] at hb
    obtain ⟨⟨⟨q1, q2⟩, q3⟩, q4⟩ := hb
    have e : sideOf ⟨r, h, a0, b0, a1, b1⟩ at_ up = (sideM a0 a1 (min (max at_ 0) h) h up, if r then 0 else sideM b0 b1 (min (max at_ 0) h) h up) := if_pos ⟨by simp only; omega, q1, q3, q2, q4⟩
    rw [e]
    clear e
    unfold inB at q1 q2 q3 q4
    simp only [Bool.and_eq_true, decide_eq_true_eq] at q1 q2 q3 q4
    obtain ⟨p, hp⟩ : ∃ p, max at_ 0 = p := ⟨_, rfl⟩
    obtain ⟨q, hq⟩ : ∃ q, min p h = q := ⟨_, rfl⟩
    rw [hp, hq]
    have c1 := fun w => between_any a0 a1 q h up q1.1 q1.2 q3.1 q3.2 (by omega) (by omega) (by omega) i1 w
    have c2 := fun w => between_any b0 b1 q h up q2.1 q2.2 q4.1 q4.2 (by omega) (by omega) (by omega) i1 w
    clear q1 q2 q3 q4 i1 i2 i3 i4 i5 hat hh
    cases r
    · go_enter Tryd.func10, Tryd.ntmps10
      go_wp2_with fail
      refine (cB _).mono ?_
      rintro e w1 ⟨rfl, g⟩
      have z0 := g.keep (p := ⟨w.heap.size, 0, none⟩) (v := .bool false) (by simp [go_sem])
      have z1 := g.keep (p := ⟨w.heap.size, 1, none⟩) (v := .int .i64 h) (by simp [go_sem])
      have z2 := g.keep (p := ⟨w.heap.size, 2, none⟩) (v := .int .i64 a0) (by simp [go_sem])
      have z3 := g.keep (p := ⟨w.heap.size, 3, none⟩) (v := .int .i64 b0) (by simp [go_sem])
      have z4 := g.keep (p := ⟨w.heap.size, 4, none⟩) (v := .int .i64 a1) (by simp [go_sem])
      have z5 := g.keep (p := ⟨w.heap.size, 5, none⟩) (v := .int .i64 b1) (by simp [go_sem])
      replace g := ((Q.refl w).alloc _ _).trans g
      go_wp2_with fail
      refine (c1 _).mono ?_
      rintro e w2 ⟨rfl, g2⟩
      replace z0 := g2.keep z0
      replace z1 := g2.keep z1
      replace z2 := g2.keep z2
      replace z3 := g2.keep z3
      replace z4 := g2.keep z4
      replace z5 := g2.keep z5
      replace g := g.trans g2
      clear g2
      go_wp2_with fail
      refine (c2 _).mono ?_
      rintro e w3 ⟨rfl, g2⟩
      replace g := g.trans g2
      clear g2
      go_wp2
      go_ret2
      exact ⟨by simp, g.b⟩
    · go_enter Tryd.func10, Tryd.ntmps10
      go_wp2_with fail
      refine (cB _).mono ?_
      rintro e w1 ⟨rfl, g⟩
      have z0 := g.keep (p := ⟨w.heap.size, 0, none⟩) (v := .bool true) (by simp [go_sem])
      have z1 := g.keep (p := ⟨w.heap.size, 1, none⟩) (v := .int .i64 h) (by simp [go_sem])
      have z2 := g.keep (p := ⟨w.heap.size, 2, none⟩) (v := .int .i64 a0) (by simp [go_sem])
      have z3 := g.keep (p := ⟨w.heap.size, 3, none⟩) (v := .int .i64 b0) (by simp [go_sem])
      have z4 := g.keep (p := ⟨w.heap.size, 4, none⟩) (v := .int .i64 a1) (by simp [go_sem])
      have z5 := g.keep (p := ⟨w.heap.size, 5, none⟩) (v := .int .i64 b1) (by simp [go_sem])
      replace g := ((Q.refl w).alloc _ _).trans g
      go_wp2_with fail
      refine (c1 _).mono ?_
      rintro e w2 ⟨rfl, g2⟩
      replace z0 := g2.keep z0
      replace z1 := g2.keep z1
      replace z2 := g2.keep z2
      replace z3 := g2.keep z3
      replace z4 := g2.keep z4
      replace z5 := g2.keep z5
      replace g := g.trans g2
      clear g2
      go_wp2
      go_ret2
      exact ⟨by simp, g.b⟩
  · have e : sideOf ⟨r, h, a0, b0, a1, b1⟩ at_ up = (0, 0) := if_neg (fun x => hb (by unfold boundS; simp [x.2.1, x.2.2.1, x.2.2.2.1, x.2.2.2.2]))
    have eb : boundS ⟨r, h, a0, b0, a1, b1⟩ = false := by simpa using hb
    rw [e]
    rw [eb] at cB
    clear hb e eb
    go_enter Tryd.func10, Tryd.ntmps10
    go_wp2_with fail
    refine (cB _).mono ?_
    rintro e w1 ⟨rfl, g⟩
    replace g := ((Q.refl w).alloc _ _).trans g
    go_wp2
    go_ret2
    exact ⟨rfl, g.b⟩

/-- Its sides are those of a piece. -/
def soundS (s : Sec) : Bool := boundS s && (s.a1 != 0) && (if s.r then (s.b0 == 0) && (s.b1 == 0) else decide (0 < s.b1))
set_option maxHeartbeats 1000000 in
theorem sound_any (r : Bool) (h a0 b0 a1 b1 : Int) (w : World) :
    Calls Tryd.prog 18 #[.agg #[.bool r, .int .i64 h, .int .i64 a0, .int .i64 b0, .int .i64 a1, .int .i64 b1]] w fun e w' => e = .returned (.bool (soundS ⟨r, h, a0, b0, a1, b1⟩)) ∧ Q w w' := by
  have cB := fun w => bounded_any r h a0 b0 a1 b1 w
  have hS : soundS ⟨r, h, a0, b0, a1, b1⟩ = (boundS ⟨r, h, a0, b0, a1, b1⟩ && (a1 != 0) && (if r then (b0 == 0) && (b1 == 0) else decide (0 < b1))) := rfl
  generalize boundS ⟨r, h, a0, b0, a1, b1⟩ = B0 at *
  rw [hS]
  clear hS
  have hA : ((a1 == 0) = true ∧ (a1 != 0) = false) ∨ ((a1 == 0) = false ∧ (a1 != 0) = true) := by by_cases a1 = 0 <;> simp [*]
  have hZ : (b0 == 0) = true ∨ (b0 == 0) = false := by cases (b0 == 0) <;> simp
  cases B0
  · simp only [Bool.false_and]
    go_enter Tryd.func18, Tryd.ntmps18
    go_wp2_with fail
    refine (cB _).mono ?_
    rintro e w1 ⟨rfl, g⟩
    replace g := ((Q.refl w).alloc _ _).trans g
    go_wp2
    go_ret
    exact ⟨rfl, g⟩
  rcases hA with ⟨a2, a3⟩ | ⟨a2, a3⟩
  · rw [a3]
    simp only [Bool.false_and, Bool.and_false]
    go_enter Tryd.func18, Tryd.ntmps18
    go_wp2_with fail
    refine (cB _).mono ?_
    rintro e w1 ⟨rfl, g⟩
    have z4 := g.keep (p := ⟨w.heap.size, 4, none⟩) (v := .int .i64 a1) (by simp [go_sem])
    replace g := ((Q.refl w).alloc _ _).trans g
    go_wp2
    go_ret
    exact ⟨rfl, g⟩
  rw [a3]
  cases r
  · go_enter Tryd.func18, Tryd.ntmps18
    go_wp2_with fail
    refine (cB _).mono ?_
    rintro e w1 ⟨rfl, g⟩
    have z0 := g.keep (p := ⟨w.heap.size, 0, none⟩) (v := .bool false) (by simp [go_sem])
    have z1 := g.keep (p := ⟨w.heap.size, 1, none⟩) (v := .int .i64 h) (by simp [go_sem])
    have z2 := g.keep (p := ⟨w.heap.size, 2, none⟩) (v := .int .i64 a0) (by simp [go_sem])
    have z3 := g.keep (p := ⟨w.heap.size, 3, none⟩) (v := .int .i64 b0) (by simp [go_sem])
    have z4 := g.keep (p := ⟨w.heap.size, 4, none⟩) (v := .int .i64 a1) (by simp [go_sem])
    have z5 := g.keep (p := ⟨w.heap.size, 5, none⟩) (v := .int .i64 b1) (by simp [go_sem])
    replace g := ((Q.refl w).alloc _ _).trans g
    go_wp2
    go_ret
    exact ⟨by simp, g⟩
  rcases hZ with hZ | hZ
  all_goals
    rw [hZ]
    go_enter Tryd.func18, Tryd.ntmps18
    go_wp2_with fail
    refine (cB _).mono ?_
    rintro e w1 ⟨rfl, g⟩
    have z0 := g.keep (p := ⟨w.heap.size, 0, none⟩) (v := .bool true) (by simp [go_sem])
    have z1 := g.keep (p := ⟨w.heap.size, 1, none⟩) (v := .int .i64 h) (by simp [go_sem])
    have z2 := g.keep (p := ⟨w.heap.size, 2, none⟩) (v := .int .i64 a0) (by simp [go_sem])
    have z3 := g.keep (p := ⟨w.heap.size, 3, none⟩) (v := .int .i64 b0) (by simp [go_sem])
    have z4 := g.keep (p := ⟨w.heap.size, 4, none⟩) (v := .int .i64 a1) (by simp [go_sem])
    have z5 := g.keep (p := ⟨w.heap.size, 5, none⟩) (v := .int .i64 b1) (by simp [go_sem])
    replace g := ((Q.refl w).alloc _ _).trans g
    go_wp2
    go_ret
    exact ⟨by simp, g⟩

theorem secOk_sound (s : Sec) (m : Int) (hm : s.h.tmod 100 = m) : secOk s = (!(decide (s.h < 1)) && !(decide (60000 < s.h)) && !(m != 0) && soundS s) := by
  rw [secOk_eq s m hm]
  have e : soundS s = (inB s.a0 0 20000 && inB s.a1 1 20000 && (if s.r then !(s.b0 != 0) && !(s.b1 != 0) else inB s.b0 0 20000 && inB s.b1 1 20000)) := by
    unfold soundS boundS inB
    cases hr : s.r
    · rw [Bool.eq_iff_iff]
      simp
      omega
    · rw [Bool.eq_iff_iff]
      simp
      omega
  rw [e]
  simp only [Bool.and_assoc]
theorem hsum_mono (l : List Sec) (hl : ∀ s ∈ l, 0 ≤ s.h) (j n : Nat) (hjn : j ≤ n) : hsumI l j ≤ hsumI l n := by
  induction n with
  | zero => obtain rfl : j = 0 := by omega
            omega
  | succ n ih =>
    by_cases e : j = n + 1
    · subst e; omega
    · have h1 := ih (by omega)
      cases hg : l[n]? with
      | none =>
        have e1 : l.take (n + 1) = l.take n := by rw [List.take_add_one, hg]; simp
        unfold hsumI at *
        rw [e1]; exact h1
      | some s =>
        have := hl s (List.mem_of_getElem? hg)
        rw [hsumI_succ l n s hg]
        omega
theorem rightS_over (l : List Sec) (k : Nat) (s : Sec) (h : l[k]? = some s) (ho : 60000 < hsumI l k + s.h) : rightS l = false := by
  cases e : rightS l
  · rfl
  · unfold rightS at e
    simp only [Bool.and_eq_true, decide_eq_true_eq, List.all_eq_true] at e
    obtain ⟨⟨_, ha⟩, hs⟩ := e
    have hk : k < l.length := by
      rw [List.getElem?_eq_some_iff] at h
      exact h.1
    have := hsum_mono l (fun s hs => by have := secOk_h s (ha s hs); omega) (k + 1) l.length (by omega)
    rw [hsumI_succ l k s h] at this
    omega

set_option maxRecDepth 100000 in
set_option maxHeartbeats 2000000 in
theorem right_row (a : Addr) (cap : Nat) (l : List Sec) (h2 : l.length ≤ cap) (h3 : cap ≤ maxLen) (w : World) (h4 : ∀ i s, l[i]? = some s → s.I ∧ SecAt w (a.add (i * 6)) s) :
    Calls Tryd.prog 11 #[.slice (some a) l.length cap] w fun e w' => e = .returned (.bool (rightS l)) ∧ Q w w' := by
  unfold maxLen at h3
  have h5 : l.length ≤ 2 ^ 63 - 1 := Nat.le_trans h2 h3
  clear h2 h3
  by_cases n1 : l.length < 1
  · rw [rightS_short l n1]
    have n1B : decide ((l.length : Int) < 1) = true := decide_eq_true (by omega)
    clear h4
    go_enter Tryd.func11, Tryd.ntmps11
    go_wp2
    go_ret
    exact ⟨rfl, Q.refl w⟩
  have n1B : decide ((l.length : Int) < 1) = false := decide_eq_false (by omega)
  by_cases n2 : 4 < l.length
  · rw [rightS_long l n2]
    have n2B : decide ((4 : Int) < (l.length : Int)) = true := decide_eq_true (by omega)
    clear h4
    go_enter Tryd.func11, Tryd.ntmps11
    go_wp2
    go_ret
    exact ⟨rfl, Q.refl w⟩
  have n2B : decide ((4 : Int) < (l.length : Int)) = false := decide_eq_false (by omega)
  go_enter Tryd.func11, Tryd.ntmps11
  go_wp2
  go_loopw [3, 16] (fun lf i wr => ∃ (k : Nat), k ≤ l.length ∧ i = .int .i64 k ∧ lf = .int .i64 (60000 - hsumI l k) ∧ 0 ≤ hsumI l k ∧ hsumI l k ≤ 60000 ∧ okTo l k = true ∧ Q w wr) (fun _ i _ => l.length - (intOf i).toNat)
  case atStart => exact ⟨0, Nat.zero_le _, rfl, rfl, by simp [hsumI], by simp [hsumI], rfl, Q.refl w⟩
  case round =>
    obtain ⟨k, hk, rfl, rfl, t1, t2, hok, hq⟩ := hrel
    by_cases hl : k < l.length
    · have hlB : decide (k < l.length) = true := decide_eq_true hl
      have hg := List.getElem?_eq_getElem hl
      have hs := (h4 k _ hg).2.keep hq
      have hsu := hsumI_succ l k _ hg
      have hoku := okTo_succ l k _ hg hok
      have hbad := rightS_bad l k _ hg
      have hover := rightS_over l k _ hg
      clear h4 hok
      generalize l[k] = s at *
      generalize hsumI l k = t at *
      obtain ⟨r, h, a0, b0, a1, b1⟩ := s
      obtain ⟨f0, f1, f2, f3, f4, f5⟩ := hs
      obtain ⟨m, hm1⟩ : ∃ m, h.tmod 100 = m := ⟨_, rfl⟩
      have hsec := secOk_sound ⟨r, h, a0, b0, a1, b1⟩ m hm1
      have cS := fun w => sound_any r h a0 b0 a1 b1 w
      obtain ⟨lf, hlf⟩ : ∃ lf, 60000 - t = lf := ⟨_, rfl⟩
      rw [hlf]
      simp only at f0 f1 f2 f3 f4 f5 hsu hsec hover
      have HS := Lib.hid hsu
      have HM := Lib.hid hg
      clear hsu hg
      by_cases k1' : h < 1
      · have k1 : decide (h < 1) = true := decide_eq_true k1'
        have HB := Lib.hid (hbad (by rw [hsec]; simp [k1]))
        clear hbad hsec hoku hover cS
        go_wp2
        go_ret
        exact ⟨by rw [HB.out]; rfl, hq.alloc _ _⟩
      have k1 : decide (h < 1) = false := decide_eq_false k1'
      by_cases k2' : lf < h
      · have k2 : decide (lf < h) = true := decide_eq_true k2'
        have HB := Lib.hid (hover (by omega))
        clear hbad hsec hoku hover cS
        go_wp2
        go_ret
        exact ⟨by rw [HB.out]; rfl, hq.alloc _ _⟩
      have k2 : decide (lf < h) = false := decide_eq_false k2'
      have k2b : decide (60000 < h) = false := decide_eq_false (by omega)
      have k3 : (m != 0) = true ∨ (m != 0) = false := by cases (m != 0) <;> simp
      rcases k3 with k3 | k3
      · have HB := Lib.hid (hbad (by rw [hsec]; simp [k1, k2b, k3]))
        clear hbad hsec hoku hover cS k2b
        go_wp2
        go_ret
        exact ⟨by rw [HB.out]; rfl, hq.alloc _ _⟩
      generalize soundS ⟨r, h, a0, b0, a1, b1⟩ = s0 at *
      cases s0
      · have HB := Lib.hid (hbad (by rw [hsec]; simp))
        clear hbad hsec hoku hover k2b
        go_wp2_with fail
        refine (cS _).mono ?_
        rintro e w1 ⟨rfl, g⟩
        replace g := (hq.alloc _ _).trans g
        go_wp2
        go_ret
        exact ⟨by rw [HB.out]; rfl, g⟩
      · have HO := Lib.hid (hoku (by rw [hsec]; simp [k1, k2b, k3]))
        have e1 : IntKind.i64.wrap (lf - h) = lf - h := wrapI (by omega) (by omega)
        clear hbad hsec hoku hover k2b
        go_wp2_with fail
        refine (cS _).mono ?_
        rintro e w1 ⟨rfl, g⟩
        have z1 := g.keep (p := ⟨wr.heap.size, 1, none⟩) (v := .int .i64 h) (by simp [go_sem])
        replace g := (hq.alloc _ _).trans g
        go_wp2
        go_roundw
        case rel => exact ⟨k + 1, by omega, by go_num, by rw [HS.out]; congr 1; omega, by rw [HS.out]; omega, by rw [HS.out]; omega, HO.out, g⟩
        case measure => simp [intOf]; omega
    · have hlB : decide (k < l.length) = false := decide_eq_false hl
      obtain rfl : k = l.length := by omega
      have HE := Lib.hid ((rightS_end l (by omega) (by omega) hok).trans (decide_eq_true t2))
      clear h4 hok
      go_wp2
      go_ret
      exact ⟨by rw [HE.out]; rfl, hq⟩

theorem right_code : RightC := by
  intro v l w hv
  rcases hv with ⟨rfl, rfl⟩ | ⟨a, cap, rfl, h2, h3, h4⟩
  · rw [rightS_short [] (by simp)]
    go_enter Tryd.func11, Tryd.ntmps11
    go_wp2
    go_ret
    exact ⟨rfl, B.refl w⟩
  · exact (right_row a cap l h2 h3 w h4).mono fun _ _ h => ⟨h.1, h.2.b⟩

set_option maxHeartbeats 1000000 in
theorem height_code : HeightC := by
  intro v l w hv hr
  obtain ⟨hl1, hl4, hok⟩ := right_all hr
  have hsm : ∀ k, k ≤ l.length → 0 ≤ hsumI l k ∧ hsumI l k ≤ 240000 := fun k hk => by
    have h := hsum_small l k (by unfold okTo; rw [List.all_eq_true]; exact fun s hs => hok s (List.mem_of_mem_take hs))
    omega
  rcases hv with ⟨rfl, rfl⟩ | ⟨a, cap, rfl, h2, h3, h4⟩
  · simp at hl1
  clear hr hok hl1 h2 h3
  go_enter Tryd.func12, Tryd.ntmps12
  go_wp2
  go_loopw [3, 8] (fun hh i wr => ∃ (k : Nat), k ≤ l.length ∧ i = .int .i64 k ∧ hh = .int .i64 (hsumI l k) ∧ Q w wr) (fun _ i _ => l.length - (intOf i).toNat)
  case atStart => exact ⟨0, Nat.zero_le _, rfl, rfl, Q.refl w⟩
  case round =>
    obtain ⟨k, hk, rfl, rfl, hq⟩ := hrel
    by_cases hl : k < l.length
    · have hlB : decide (k < l.length) = true := decide_eq_true hl
      have hg := List.getElem?_eq_getElem hl
      have hs := (h4 k _ hg).2.keep hq
      have hsu := hsumI_succ l k _ hg
      obtain ⟨m1, m2⟩ := hsm (k + 1) (by omega)
      rw [hsu] at m1 m2
      clear h4 hsm
      generalize l[k] = s at *
      generalize hsumI l k = t at *
      obtain ⟨f0, f1, f2, f3, f4, f5⟩ := hs
      have HS := Lib.hid hsu
      have HM := Lib.hid hg
      clear hsu hg
      have e1 : IntKind.i64.wrap (t + s.h) = t + s.h := wrapI (by omega) (by omega)
      go_wp2
      go_roundw
      case rel => exact ⟨k + 1, by omega, by go_num, by rw [HS.out], hq.alloc _ _⟩
      case measure => simp [intOf]; omega
    · have hlB : decide (k < l.length) = false := decide_eq_false hl
      obtain rfl : k = l.length := by omega
      clear h4 hsm
      go_wp2
      go_ret
      exact ⟨rfl, hq.b⟩
end Go.Proofs.YthibjkjdimgipaaDoor
