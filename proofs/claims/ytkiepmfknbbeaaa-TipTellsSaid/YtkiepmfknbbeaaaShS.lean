/-
  Contracts of layer 3: bounds of sides, a side at a height.
-/
import Derived.Test.YtkiepmfknbbeaaaChecked
import Derived.Test.YtkiepmfknbbeaaaSideo
import Derived.Test.YtkiepmfknbbeaaaQmd
import Derived.KernelRfl
import Derived.Lib.MinMax
namespace Go.Proofs.Ytkiepmfknbbeaaa
open Go.RowKit

/-- The code's Side does what the document says. -/
def SideC : Prop := ∀ (r : Bool) (h a0 b0 a1 b1 at_ : Int) (up : Bool) (w : World), Sec.I ⟨r, h, a0, b0, a1, b1⟩ → I64 at_ →
  Calls Try.prog 70 #[.agg #[.bool r, .int .i64 h, .int .i64 a0, .int .i64 b0, .int .i64 a1, .int .i64 b1], .int .i64 at_, .bool up] w fun e w' =>
    e = .returned (.tuple #[.int .i64 (sideOf ⟨r, h, a0, b0, a1, b1⟩ at_ up).1, .int .i64 (sideOf ⟨r, h, a0, b0, a1, b1⟩ at_ up).2]) ∧ B w w'

/-- Its sides are bounded. -/
def boundS (s : Sec) : Bool := inB s.a0 0 20000 && inB s.b0 0 20000 && inB s.a1 0 20000 && inB s.b1 0 20000
def sideNo (s : Sec) (k : Nat) : Int := [s.a0, s.b0, s.a1, s.b1].getD k 0
theorem inB_no {x : Int} (h : inB x 0 20000 = true) : decide (x < 0) = false ∧ decide (20000 < x) = false := by
  unfold inB at h
  simp only [Bool.and_eq_true, decide_eq_true_eq] at h
  exact ⟨decide_eq_false (by omega), decide_eq_false (by omega)⟩
theorem inB_ways (x : Int) : (inB x 0 20000 = true ∧ decide (x < 0) = false ∧ decide (20000 < x) = false) ∨ (inB x 0 20000 = false ∧ decide (x < 0) = true) ∨ (inB x 0 20000 = false ∧ decide (x < 0) = false ∧ decide (20000 < x) = true) := by
  unfold inB
  by_cases h1 : x < 0
  · exact .inr (.inl ⟨by simp; omega, decide_eq_true h1⟩)
  · by_cases h2 : 20000 < x
    · exact .inr (.inr ⟨by simp; omega, decide_eq_false h1, decide_eq_true h2⟩)
    · exact .inl ⟨by simp; omega, decide_eq_false h1, decide_eq_false h2⟩

theorem boundS_no (s : Sec) (k : Nat) (hk : k < 4) (h : inB (sideNo s k) 0 20000 = false) : boundS s = false := by
  unfold boundS
  match k, hk with
  | 0, _ => have h' : inB s.a0 0 20000 = false := h; rw [h']; simp
  | 1, _ => have h' : inB s.b0 0 20000 = false := h; rw [h']; simp
  | 2, _ => have h' : inB s.a1 0 20000 = false := h; rw [h']; simp
  | 3, _ => have h' : inB s.b1 0 20000 = false := h; rw [h']; simp
theorem boundS_yes (s : Sec) (h : ∀ j, j < 4 → inB (sideNo s j) 0 20000 = true) : boundS s = true := by
  unfold boundS
  have h0 : inB s.a0 0 20000 = true := h 0 (by omega)
  have h1 : inB s.b0 0 20000 = true := h 1 (by omega)
  have h2 : inB s.a1 0 20000 = true := h 2 (by omega)
  have h3 : inB s.b1 0 20000 = true := h 3 (by omega)
  rw [h0, h1, h2, h3]; rfl

/-- A place of an array of four numbers. -/
theorem arr4_get (x : Nat → Int) (k : Nat) (hk : k < 4) (w : World) : (Instr.index 112 (Value.agg #[.int .i64 (x 0), .int .i64 (x 1), .int .i64 (x 2), .int .i64 (x 3)]) (Value.int .i64 (k : Int))).run Try.prog w = .ok (.int .i64 (x k)) w := by
  have hu : Try.prog.underlying 112 = some (.array 4 2) := by kernel_rfl
  match k, hk with
  | 0, _ => simp [Instr.index, run_underlying hu, asIntOf, part, go_sem]
  | 1, _ => simp [Instr.index, run_underlying hu, asIntOf, part, go_sem]
  | 2, _ => simp [Instr.index, run_underlying hu, asIntOf, part, go_sem]
  | 3, _ => simp [Instr.index, run_underlying hu, asIntOf, part, go_sem]

set_option maxHeartbeats 1000000 in
theorem bounded_any (r : Bool) (h a0 b0 a1 b1 : Int) (w : World) :
    Calls Try.prog 69 #[.agg #[.bool r, .int .i64 h, .int .i64 a0, .int .i64 b0, .int .i64 a1, .int .i64 b1]] w fun e w' => e = .returned (.bool (boundS ⟨r, h, a0, b0, a1, b1⟩)) ∧ Q w w' := by
  have hno := boundS_no ⟨r, h, a0, b0, a1, b1⟩
  have hyes := boundS_yes ⟨r, h, a0, b0, a1, b1⟩
  have hg := fun k hk w => arr4_get (sideNo ⟨r, h, a0, b0, a1, b1⟩) k hk w
  change ∀ k : Nat, k < 4 → ∀ w : World, (Instr.index 112 (Value.agg #[.int .i64 a0, .int .i64 b0, .int .i64 a1, .int .i64 b1]) (Value.int .i64 (k : Int))).run Try.prog w = .ok (.int .i64 (sideNo ⟨r, h, a0, b0, a1, b1⟩ k)) w at hg
  generalize hB : boundS ⟨r, h, a0, b0, a1, b1⟩ = B0 at *
  clear hB
  go_enter Try.func69, Try.ntmps69
  go_wp2
  have hq := (Q.refl w).alloc #[.bool r, .int .i64 h, .int .i64 a0, .int .i64 b0, .int .i64 a1, .int .i64 b1] 78
  generalize w.alloc _ = W1 at *
  go_loop [14] (fun i => ∃ k : Nat, k ≤ 4 ∧ i = .int .i64 k ∧ ∀ j, j < k → inB (sideNo ⟨r, h, a0, b0, a1, b1⟩ j) 0 20000 = true) (fun i => 4 - (intOf i).toNat)
  case atStart => exact ⟨0, Nat.zero_le _, rfl, fun j hj => absurd hj (by omega)⟩
  case round =>
    obtain ⟨k, hk, rfl, hall⟩ := hrel
    by_cases hl : k < 4
    · have hlB : decide ((k : Int) < 4) = true := decide_eq_true (by omega)
      have ho := hno k hl
      have hx := hg k hl
      have hw := inB_ways (sideNo ⟨r, h, a0, b0, a1, b1⟩ k)
      have hn : inB (sideNo ⟨r, h, a0, b0, a1, b1⟩ k) 0 20000 = true → ∀ j, j < k + 1 → inB (sideNo ⟨r, h, a0, b0, a1, b1⟩ j) 0 20000 = true := fun hk j hj => by
        by_cases e : j = k
        · rw [e]; exact hk
        · exact hall j (by omega)
      clear hall hno hyes hg
      rcases hw with ⟨e0, e1, e2⟩ | ⟨e0, e1⟩ | ⟨e0, e1, e2⟩
      · have HN := Lib.hid (hn e0)
        clear hn ho
        go_wp2
        go_round
        case rel => exact ⟨k + 1, by omega, by go_num, HN.out⟩
        case measure => simp [intOf]; omega
      · have HO := Lib.hid (ho e0)
        clear hn ho
        go_wp2
        go_ret
        exact ⟨by rw [HO.out]; rfl, hq⟩
      · have HO := Lib.hid (ho e0)
        clear hn ho
        go_wp2
        go_ret
        exact ⟨by rw [HO.out]; rfl, hq⟩
    · have hlB : decide ((k : Int) < 4) = false := decide_eq_false (by omega)
      obtain rfl : k = 4 := by omega
      have HY := Lib.hid (hyes hall)
      clear hno hyes hg hall
      go_wp2
      go_ret
      exact ⟨by rw [HY.out]; rfl, hq⟩

theorem between_any (x0 x1 at_ h : Int) (up : Bool) (a0 : 0 ≤ x0) (b0 : x0 ≤ 20000) (a1 : 0 ≤ x1) (b1 : x1 ≤ 20000) (h0 : 0 ≤ at_) (h1 : at_ ≤ h) (hh : 1 ≤ h) (hI : I64 h) (w : World) :
    Calls Try.prog 78 #[.int .i64 x0, .int .i64 x1, .int .i64 at_, .int .i64 h, .bool up] w fun e w' => e = .returned (.int .i64 (sideM x0 x1 at_ h up)) ∧ Q w w' := by
  obtain ⟨f1, f2, f3, f4⟩ := side_fits a0 b0 a1 b1 h0 h1 hh up
  have c := fun w => muldiv_any (x1 - x0) at_ h up (by unfold I64; omega) (by unfold I64 at *; omega) hI w
  have e1 : IntKind.i64.wrap (x1 - x0) = x1 - x0 := wrapI (by omega) (by omega)
  unfold sideM at *
  generalize mv (x1 - x0) at_ h up = g at *
  generalize me (x1 - x0) at_ h up = g' at *
  have e2 : IntKind.i64.wrap (x0 + g) = x0 + g := wrapI (by omega) (by omega)
  clear f1 f2 f3 f4
  go_enter Try.func78, Try.ntmps78
  go_wp2_with fail
  refine (c _).mono ?_
  rintro e w1 ⟨rfl, h⟩
  go_wp2
  go_ret
  exact ⟨rfl, h.q⟩

set_option maxHeartbeats 2000000 in
theorem side_code : SideC := by
  intro r h a0 b0 a1 b1 at_ up w hI hat
  obtain ⟨i1, i2, i3, i4, i5⟩ := hI
  simp only at i1 i2 i3 i4 i5
  have cB := fun w => bounded_any r h a0 b0 a1 b1 w
  by_cases hh : h < 1
  · have hB : decide (h < 1) = true := decide_eq_true hh
    have e : sideOf ⟨r, h, a0, b0, a1, b1⟩ at_ up = (0, 0) := if_neg (fun x => by have := x.1; simp only at this; omega)
    rw [e]
    go_enter Try.func70, Try.ntmps70
    go_wp2
    go_ret2
    exact ⟨rfl, ((Q.refl w).alloc _ _).b⟩
  have hB : decide (h < 1) = false := decide_eq_false hh
  by_cases hb : boundS ⟨r, h, a0, b0, a1, b1⟩ = true
  · rw [hb] at cB
    unfold boundS at hb
    simp only [Bool.and_eq_true] at hb
    obtain ⟨⟨⟨q1, q2⟩, q3⟩, q4⟩ := hb
    have e : sideOf ⟨r, h, a0, b0, a1, b1⟩ at_ up = (sideM a0 a1 (min (max at_ 0) h) h up, if r then 0 else sideM b0 b1 (min (max at_ 0) h) h up) := if_pos ⟨by simp only; omega, q1, q3, q2, q4⟩
    rw [e]
    clear e
    unfold inB at q1 q2 q3 q4
    simp only [Bool.and_eq_true, decide_eq_true_eq] at q1 q2 q3 q4
    obtain ⟨p, hp⟩ : ∃ p, max at_ 0 = p := ⟨_, rfl⟩
    obtain ⟨q, hq⟩ : ∃ q, min p h = q := ⟨_, rfl⟩
    rw [hp, hq]
    have c1 := fun w => between_any a0 a1 q h up q1.1 q1.2 q3.1 q3.2 (by omega) (by omega) (by omega) i1 w
    have c2 := fun w => between_any b0 b1 q h up q2.1 q2.2 q4.1 q4.2 (by omega) (by omega) (by omega) i1 w
    clear q1 q2 q3 q4 i1 i2 i3 i4 i5 hat hh
    cases r
    · go_enter Try.func70, Try.ntmps70
      go_wp2_with fail
      refine (cB _).mono ?_
      rintro e w1 ⟨rfl, g⟩
      have z0 := g.keep (p := ⟨w.heap.size, 0, none⟩) (v := .bool false) (by simp [go_sem])
      have z1 := g.keep (p := ⟨w.heap.size, 1, none⟩) (v := .int .i64 h) (by simp [go_sem])
      have z2 := g.keep (p := ⟨w.heap.size, 2, none⟩) (v := .int .i64 a0) (by simp [go_sem])
      have z3 := g.keep (p := ⟨w.heap.size, 3, none⟩) (v := .int .i64 b0) (by simp [go_sem])
      have z4 := g.keep (p := ⟨w.heap.size, 4, none⟩) (v := .int .i64 a1) (by simp [go_sem])
      have z5 := g.keep (p := ⟨w.heap.size, 5, none⟩) (v := .int .i64 b1) (by simp [go_sem])
      replace g := ((Q.refl w).alloc _ _).trans g
      go_wp2_with fail
      refine (c1 _).mono ?_
      rintro e w2 ⟨rfl, g2⟩
      replace z0 := g2.keep z0
      replace z1 := g2.keep z1
      replace z2 := g2.keep z2
      replace z3 := g2.keep z3
      replace z4 := g2.keep z4
      replace z5 := g2.keep z5
      replace g := g.trans g2
      clear g2
      go_wp2_with fail
      refine (c2 _).mono ?_
      rintro e w3 ⟨rfl, g2⟩
      replace g := g.trans g2
      clear g2
      go_wp2
      go_ret2
      exact ⟨by simp, g.b⟩
    · go_enter Try.func70, Try.ntmps70
      go_wp2_with fail
      refine (cB _).mono ?_
      rintro e w1 ⟨rfl, g⟩
      have z0 := g.keep (p := ⟨w.heap.size, 0, none⟩) (v := .bool true) (by simp [go_sem])
      have z1 := g.keep (p := ⟨w.heap.size, 1, none⟩) (v := .int .i64 h) (by simp [go_sem])
      have z2 := g.keep (p := ⟨w.heap.size, 2, none⟩) (v := .int .i64 a0) (by simp [go_sem])
      have z3 := g.keep (p := ⟨w.heap.size, 3, none⟩) (v := .int .i64 b0) (by simp [go_sem])
      have z4 := g.keep (p := ⟨w.heap.size, 4, none⟩) (v := .int .i64 a1) (by simp [go_sem])
      have z5 := g.keep (p := ⟨w.heap.size, 5, none⟩) (v := .int .i64 b1) (by simp [go_sem])
      replace g := ((Q.refl w).alloc _ _).trans g
      go_wp2_with fail
      refine (c1 _).mono ?_
      rintro e w2 ⟨rfl, g2⟩
      replace z0 := g2.keep z0
      replace z1 := g2.keep z1
      replace z2 := g2.keep z2
      replace z3 := g2.keep z3
      replace z4 := g2.keep z4
      replace z5 := g2.keep z5
      replace g := g.trans g2
      clear g2
      go_wp2
      go_ret2
      exact ⟨by simp, g.b⟩
  · have e : sideOf ⟨r, h, a0, b0, a1, b1⟩ at_ up = (0, 0) := if_neg (fun x => hb (by unfold boundS; simp [x.2.1, x.2.2.1, x.2.2.2.1, x.2.2.2.2]))
    have eb : boundS ⟨r, h, a0, b0, a1, b1⟩ = false := by simpa using hb
    rw [e]
    rw [eb] at cB
    clear hb e eb
    go_enter Try.func70, Try.ntmps70
    go_wp2_with fail
    refine (cB _).mono ?_
    rintro e w1 ⟨rfl, g⟩
    replace g := ((Q.refl w).alloc _ _).trans g
    go_wp2
    go_ret2
    exact ⟨rfl, g.b⟩
end Go.Proofs.Ytkiepmfknbbeaaa
