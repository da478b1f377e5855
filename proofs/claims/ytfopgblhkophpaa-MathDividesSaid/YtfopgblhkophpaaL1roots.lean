/-
  Layer 1: the walk of MathRoots.
-/
import Derived.Test.YtfopgblhkophpaaL1a
import Derived.Test.YtfopgblhkophpaaL1b
import Derived.Test.YtfopgblhkophpaaL1between
import Derived.Test.YtfopgblhkophpaaRroot
import Derived.Outline
namespace Go.Proofs.Ytfopgblhkophpaa
open Go.RowKit

theorem wrapI (n : Int) : I64 (IntKind.i64.wrap n) := by rw [IntKind.wrap_i64]; unfold I64; omega
theorem someI (n : Int) : ∃ v, IntKind.i64.wrap n = v ∧ I64 v := ⟨_, rfl, wrapI n⟩
theorem shr_I64 (a : Int) (n : Nat) (ha : I64 a) : ∃ v, a / 2 ^ n = v ∧ I64 v := by
  refine ⟨_, rfl, ?_⟩
  unfold I64 at *
  have hp : (1 : Int) ≤ 2 ^ n := by
    have := Nat.two_pow_pos n
    have h : ((2 ^ n : Nat) : Int) = 2 ^ n := by push_cast; rfl
    omega
  have := ediv_range a (2 ^ n) 9223372036854775808 hp (by omega)
  refine ⟨by omega, ?_⟩
  by_cases h0 : 0 ≤ a
  · have := Int.ediv_le_self (2 ^ n) h0
    omega
  · have : a / 2 ^ n < 0 := Int.ediv_neg_of_neg_of_pos (by omega) (by omega)
    omega

/-- Nine numbers of 64 bits stand in a block. -/
def Nine (w : World) (b : Nat) : Prop := ∀ k : Nat, k < 9 → ∃ x, I64 x ∧ w.cell? ⟨b, k, none⟩ = some (.int .i64 x)
theorem nine_of {w : World} {t : TypeId} {x0 x1 x2 x3 x4 x5 x6 x7 x8 : Int} (h0 : I64 x0) (h1 : I64 x1) (h2 : I64 x2) (h3 : I64 x3) (h4 : I64 x4) (h5 : I64 x5) (h6 : I64 x6) (h7 : I64 x7) (h8 : I64 x8) :
    Nine (w.alloc (.cells #[.int .i64 x0, .int .i64 x1, .int .i64 x2, .int .i64 x3, .int .i64 x4, .int .i64 x5, .int .i64 x6, .int .i64 x7, .int .i64 x8] t)) w.heap.size := by
  intro k hk
  rw [World.cell?_alloc_new]
  match k, hk with
  | 0, _ => exact ⟨_, h0, rfl⟩
  | 1, _ => exact ⟨_, h1, rfl⟩
  | 2, _ => exact ⟨_, h2, rfl⟩
  | 3, _ => exact ⟨_, h3, rfl⟩
  | 4, _ => exact ⟨_, h4, rfl⟩
  | 5, _ => exact ⟨_, h5, rfl⟩
  | 6, _ => exact ⟨_, h6, rfl⟩
  | 7, _ => exact ⟨_, h7, rfl⟩
  | 8, _ => exact ⟨_, h8, rfl⟩
theorem Nine.keep {w w' : World} {b : Nat} (h : Nine w b) (hb : b < w.heap.size) (q : Q w w') : Nine w' b := fun k hk => by
  obtain ⟨x, hx, hc⟩ := h k hk
  exact ⟨x, hx, (q.below.cell (p := ⟨b, k, none⟩) hb).trans hc⟩

/-- Two bools stand in a block. -/
def Two (w : World) (b : Nat) : Prop := ∀ k : Nat, k < 2 → ∃ x, w.cell? ⟨b, k, none⟩ = some (.bool x)
theorem two_of (w : World) (t : TypeId) : Two (w.alloc (.cells #[.bool false, .bool true] t)) w.heap.size := by
  intro k hk
  rw [World.cell?_alloc_new]
  match k, hk with
  | 0, _ => exact ⟨_, rfl⟩
  | 1, _ => exact ⟨_, rfl⟩
theorem Two.keep {w w' : World} {b : Nat} (h : Two w b) (hb : b < w.heap.size) (q : Q w w') : Two w' b := fun k hk => by
  obtain ⟨x, hc⟩ := h k hk
  exact ⟨x, (q.below.cell (p := ⟨b, k, none⟩) hb).trans hc⟩

set_option maxRecDepth 100000 in
theorem roots_law (a k r : Int) (wa : (Lit.int .i64 a).wf = true) (wk : (Lit.int .u8 k).wf = true) (wr : (Lit.int .i32 r).wf = true) (w : World) :
    Calls Try.prog 5 #[.int .i64 a, .int .u8 k, .int .i32 r] w fun e w' => e = .returned (.bool true) ∧ Grown w w' := by
  have ia := i64_wf wa
  have hk : 0 ≤ k ∧ k ≤ 255 := by
    simp [Lit.wf, IntKind.min, IntKind.max, IntKind.signed, IntKind.bits] at wk
    omega
  have hr := i32_range wr
  have cN := fun w => near_any a k ia hk w
  obtain ⟨hk1, hk2⟩ := hk
  obtain ⟨hr1, hr2⟩ := hr
  obtain ⟨c, hc⟩ : ∃ c, r / 2048 = c := ⟨_, rfl⟩
  have hc1 : -1048576 ≤ c ∧ c ≤ 1048576 := by omega
  obtain ⟨hc1, hc2⟩ := hc1
  obtain ⟨A2, e0, i0⟩ := shr_I64 a (k % 64).toNat ia
  obtain ⟨S2, e1, i1⟩ := someI (r * r)
  obtain ⟨S3, e2, i2⟩ := someI (S2 + 1)
  obtain ⟨S4, e3, i3⟩ := someI (S2 - 1)
  obtain ⟨C2, e4, i4⟩ := someI (c * c)
  obtain ⟨C3, e5, i5⟩ := someI (C2 * c)
  obtain ⟨C4, e6, i6⟩ := someI (C3 + 1)
  obtain ⟨C5, e7, i7⟩ := someI (C3 - 1)
  clear wa wk wr
  go_enter Try.func5, Try.ntmps5
  go_wp2_with fail
  refine (known_any _).mono ?_
  rintro e w1 ⟨rfl, h1⟩
  go_wp2_with fail
  refine (cN _).mono ?_
  rintro e w2 ⟨x, hx, rfl, h2⟩
  clear cN
  go_wp2
  have N9 := nine_of (w := w2) (t := 2) ia hx i0 i1 i2 i3 i5 i6 i7
  have q0 := (h1.q.trans h2).alloc #[.int .i64 a, .int .i64 x, .int .i64 A2, .int .i64 S2, .int .i64 S3, .int .i64 S4, .int .i64 C3, .int .i64 C4, .int .i64 C5] 2
  have hb := World.size_alloc w2 (.cells #[.int .i64 a, .int .i64 x, .int .i64 A2, .int .i64 S2, .int .i64 S3, .int .i64 S4, .int .i64 C3, .int .i64 C4, .int .i64 C5] 2)
  generalize w2.alloc (.cells #[.int .i64 a, .int .i64 x, .int .i64 A2, .int .i64 S2, .int .i64 S3, .int .i64 S4, .int .i64 C3, .int .i64 C4, .int .i64 C5] 2) = W0 at *
  generalize w2.heap.size = b at *
  have hb' : b < W0.heap.size := by omega
  clear hb h1 h2 e0 e1 e2 e3 e4 e5 e6 e7 i0 i1 i2 i3 i4 i5 i6 i7 hx ia hc
  go_loopw [66] (fun i wr => ∃ n : Nat, n ≤ 9 ∧ i = .int .i64 n ∧ Q W0 wr) (fun i _ => 9 - (intOf i).toNat)
  case atStart => exact ⟨0, Nat.zero_le _, rfl, Q.refl _⟩
  case round =>
    obtain ⟨n, hn, rfl, hq⟩ := hrel
    by_cases hl : n < 9
    · obtain ⟨v, hv, hcell⟩ := (N9.keep hb' hq) n hl
      have d1 := fun up w => sqrt_any v up hv w
      have d2 := fun up w => rsqrt_any v up hv w
      have d3 := fun up w => cbrt_any v up hv w
      have d4 := fun up w => rcbrt_any v up hv w
      have hlB : decide ((n : Int) < 9) = true := decide_eq_true (by omega)
      have T2 := two_of wr 4
      have q1 := hq.alloc #[.bool false, .bool true] 4
      have hz := World.size_alloc wr (.cells #[.bool false, .bool true] 4)
      go_wp2
      generalize wr.alloc (.cells #[.bool false, .bool true] 4) = W1 at *
      generalize wr.heap.size = b1 at *
      have hb1 : b1 < W1.heap.size := by omega
      clear hz hcell hv
      obtain ⟨wo, rfl⟩ : ∃ wo : World, wo = wr := ⟨_, rfl⟩
      go_loopw [72] (fun i wr => ∃ m : Nat, m ≤ 2 ∧ i = .int .i64 m ∧ Q W1 wr) (fun i _ => 2 - (intOf i).toNat)
      case atStart => exact ⟨0, Nat.zero_le _, rfl, Q.refl _⟩
      case round =>
        obtain ⟨m, hm, rfl, hq1⟩ := hrel
        by_cases hl1 : m < 2
        · obtain ⟨up, hc1⟩ := (T2.keep hb1 hq1) m hl1
          go_wp2_with fail
          refine (d1 up _).mono ?_
          rintro e w3 ⟨rfl, rfl⟩
          go_wp2_with fail
          refine (d2 up _).mono ?_
          rintro e w3 ⟨rfl, rfl⟩
          go_wp2_with fail
          refine (d3 up _).mono ?_
          rintro e w3 ⟨rfl, rfl⟩
          go_wp2_with fail
          refine (d4 up _).mono ?_
          rintro e w3 ⟨rfl, rfl⟩
          go_wp2
          go_roundw
          case rel => exact ⟨m + 1, by omega, by go_num, hq1⟩
          case measure => simp [intOf]; omega
        · go_wp2
          go_roundw
          case rel => exact ⟨n + 1, by omega, by go_num, q1.trans hq1⟩
          case measure => simp [intOf]; omega
    · go_wp2
      go_ret
      exact ⟨rfl, (q0.trans hq).grown⟩
end Go.Proofs.Ytfopgblhkophpaa
