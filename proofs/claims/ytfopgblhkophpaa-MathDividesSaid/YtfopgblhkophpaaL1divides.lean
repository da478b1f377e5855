/-
  Layer 1: the walk of MathDivides.
-/
import Derived.Test.YtfopgblhkophpaaL1turns
import Derived.Test.YtfopgblhkophpaaL1roots
import Derived.Test.YtfopgblhkophpaaRdiv
namespace Go.Proofs.Ytfopgblhkophpaa
open Go.RowKit

theorem shr30 (a : Int) (h : I64 a) : ∃ v, a / 1073741824 = v ∧ I64 v := shr_I64 a 30 h
theorem shr40 (a : Int) (h : I64 a) : ∃ v, a / 1099511627776 = v ∧ I64 v := shr_I64 a 40 h
theorem shr50 (a : Int) (h : I64 a) : ∃ v, a / 1125899906842624 = v ∧ I64 v := shr_I64 a 50 h
theorem shr55 (a : Int) (h : I64 a) : ∃ v, a / 36028797018963968 = v ∧ I64 v := shr_I64 a 55 h

/-- Twelve numbers of 64 bits stand in a block. -/
def Twelve (w : World) (b : Nat) : Prop := ∀ k : Nat, k < 12 → ∃ x, I64 x ∧ w.cell? ⟨b, k, none⟩ = some (.int .i64 x)
theorem twelve_of {w : World} {t : TypeId} {x0 x1 x2 x3 x4 x5 x6 x7 x8 x9 x10 x11 : Int} (h0 : I64 x0) (h1 : I64 x1) (h2 : I64 x2) (h3 : I64 x3) (h4 : I64 x4) (h5 : I64 x5) (h6 : I64 x6) (h7 : I64 x7) (h8 : I64 x8) (h9 : I64 x9) (h10 : I64 x10) (h11 : I64 x11) :
    Twelve (w.alloc (.cells #[.int .i64 x0, .int .i64 x1, .int .i64 x2, .int .i64 x3, .int .i64 x4, .int .i64 x5, .int .i64 x6, .int .i64 x7, .int .i64 x8, .int .i64 x9, .int .i64 x10, .int .i64 x11] t)) w.heap.size := by
  intro k hk
  rw [World.cell?_alloc_new]
  match k, hk with
  | 0, _ => exact ⟨_, h0, rfl⟩
  | 1, _ => exact ⟨_, h1, rfl⟩
  | 2, _ => exact ⟨_, h2, rfl⟩
  | 3, _ => exact ⟨_, h3, rfl⟩
  | 4, _ => exact ⟨_, h4, rfl⟩
  | 5, _ => exact ⟨_, h5, rfl⟩
  | 6, _ => exact ⟨_, h6, rfl⟩
  | 7, _ => exact ⟨_, h7, rfl⟩
  | 8, _ => exact ⟨_, h8, rfl⟩
  | 9, _ => exact ⟨_, h9, rfl⟩
  | 10, _ => exact ⟨_, h10, rfl⟩
  | 11, _ => exact ⟨_, h11, rfl⟩
theorem Twelve.keep {w w' : World} {b : Nat} (h : Twelve w b) (hb : b < w.heap.size) (q : Q w w') : Twelve w' b := fun k hk => by
  obtain ⟨x, hx, hc⟩ := h k hk
  exact ⟨x, hx, (q.below.cell (p := ⟨b, k, none⟩) hb).trans hc⟩

set_option maxRecDepth 100000 in
theorem divides_law (a b y k j i : Int) (wa : (Lit.int .i64 a).wf = true) (wb : (Lit.int .i64 b).wf = true) (wy : (Lit.int .i64 y).wf = true) (wk : (Lit.int .u8 k).wf = true) (wj : (Lit.int .u8 j).wf = true) (wi : (Lit.int .u8 i).wf = true) (w : World) :
    Calls Try.prog 4 #[.int .i64 a, .int .i64 b, .int .i64 y, .int .u8 k, .int .u8 j, .int .u8 i] w fun e w' => e = .returned (.bool true) ∧ Grown w w' := by
  have ia := i64_wf wa
  have ib := i64_wf wb
  have iy := i64_wf wy
  have cA := fun w => near_any a k ia (u8_range wk) w
  have cB := fun w => near_any b j ib (u8_range wj) w
  have cY := fun w => near_any y i iy (u8_range wi) w
  obtain ⟨a3, ea3, ia3⟩ := shr30 a ia
  obtain ⟨b3, eb3, ib3⟩ := shr30 b ib
  obtain ⟨y4, ey4, iy4⟩ := shr40 y iy
  obtain ⟨a5, ea5, ia5⟩ := shr50 a ia
  obtain ⟨b5, eb5, ib5⟩ := shr50 b ib
  obtain ⟨y5, ey5, iy5⟩ := shr55 y iy
  clear wa wb wy wk wj wi
  go_enter Try.func4, Try.ntmps4
  go_wp2_with fail
  refine (known_any _).mono ?_
  rintro e w1 ⟨rfl, h1⟩
  go_wp2
  have T2 := two_of w1 4
  have q0 := h1.q.alloc #[.bool false, .bool true] 4
  have hz := World.size_alloc w1 (.cells #[.bool false, .bool true] 4)
  generalize w1.alloc (.cells #[.bool false, .bool true] 4) = W0 at *
  generalize w1.heap.size = b0 at *
  have hb0 : b0 < W0.heap.size := by omega
  clear hz h1
  go_loopw [25] (fun i wr => ∃ n : Nat, n ≤ 2 ∧ i = .int .i64 n ∧ Q W0 wr) (fun i _ => 2 - (intOf i).toNat)
  case atStart => exact ⟨0, Nat.zero_le _, rfl, Q.refl _⟩
  case round =>
    obtain ⟨n, hn, rfl, hq⟩ := hrel
    by_cases hl : n < 2
    · obtain ⟨up, hcell⟩ := (T2.keep hb0 hq) n hl
      have hlB : decide ((n : Int) < 2) = true := decide_eq_true (by omega)
      go_wp2_with fail
      refine (cA _).mono ?_
      rintro e w2 ⟨x, hx, rfl, h2⟩
      go_wp2_with fail
      refine (cB _).mono ?_
      rintro e w3 ⟨z, hz, rfl, h3⟩
      go_wp2_with fail
      refine (cY _).mono ?_
      rintro e w4 ⟨v, hv, rfl, h4⟩
      have N12 := twelve_of (w := w4) (t := 31) ia ib iy hx hz hv ia3 ib3 iy4 ia5 ib5 iy5
      have q1 := (((hq.trans h2).trans h3).trans h4).alloc #[.int .i64 a, .int .i64 b, .int .i64 y, .int .i64 x, .int .i64 z, .int .i64 v, .int .i64 a3, .int .i64 b3, .int .i64 y4, .int .i64 a5, .int .i64 b5, .int .i64 y5] 31
      have hs := World.size_alloc w4 (.cells #[.int .i64 a, .int .i64 b, .int .i64 y, .int .i64 x, .int .i64 z, .int .i64 v, .int .i64 a3, .int .i64 b3, .int .i64 y4, .int .i64 a5, .int .i64 b5, .int .i64 y5] 31)
      go_wp2
      generalize w4.alloc (.cells #[.int .i64 a, .int .i64 b, .int .i64 y, .int .i64 x, .int .i64 z, .int .i64 v, .int .i64 a3, .int .i64 b3, .int .i64 y4, .int .i64 a5, .int .i64 b5, .int .i64 y5] 31) = W1 at *
      generalize w4.heap.size = b1 at *
      have hb1 : b1 < W1.heap.size := by omega
      clear hs hcell
      obtain ⟨wo, rfl⟩ : ∃ wo : World, wo = wr := ⟨_, rfl⟩
      go_loopw [59] (fun i wr => ∃ m : Nat, m ≤ 4 ∧ i = .int .i64 m ∧ Q W1 wr) (fun i _ => 4 - (intOf i).toNat)
      case atStart => exact ⟨0, Nat.zero_le _, rfl, Q.refl _⟩
      case round =>
        obtain ⟨m, hm, rfl, hq1⟩ := hrel
        by_cases hl1 : m < 4
        · obtain ⟨p0, j0, g0⟩ := (N12.keep hb1 hq1) (m * 3) (by omega)
          obtain ⟨p1, j1, g1⟩ := (N12.keep hb1 hq1) (m * 3 + 1) (by omega)
          obtain ⟨p2, j2, g2⟩ := (N12.keep hb1 hq1) (m * 3 + 2) (by omega)
          have d1 := fun w => muldiv_any p0 p1 p2 up j0 j1 j2 w
          have d2 := fun w => rmuldiv_any p0 p1 p2 up j0 j1 j2 w
          clear j0 j1 j2
          go_wp2_with fail
          refine (d1 _).mono ?_
          rintro e w5 ⟨rfl, nq, rfl⟩
          go_wp2_with fail
          refine (d2 _).mono ?_
          rintro e w6 ⟨rfl, q6⟩
          go_wp2
          go_roundw
          case rel => exact ⟨m + 1, by omega, by go_num, (((hq1.alloc _ _).drewN _).trans q6)⟩
          case measure => simp [intOf]; omega
        · go_wp2
          go_roundw
          case rel => exact ⟨n + 1, by omega, by go_num, q1.trans hq1⟩
          case measure => simp [intOf]; omega
    · go_wp2
      go_ret
      exact ⟨rfl, (q0.trans hq).grown⟩
end Go.Proofs.Ytfopgblhkophpaa
