/-
  Layer 1: the walk of MathEdges.
-/
import Derived.Test.YtfopgblhkophpaaL1a
import Derived.Test.YtfopgblhkophpaaQlaw
namespace Go.Proofs.Ytfopgblhkophpaa
open Go.RowKit

theorem u8_range' {k : Int} (w : (Lit.int .u8 k).wf = true) : 0 ≤ k ∧ k ≤ 255 := by
  simp [Lit.wf, IntKind.min, IntKind.max, IntKind.signed, IntKind.bits] at w
  omega

/-- What the law's closure answers. -/
def okk (b : Bool) : Int := if b then 0 else 21

theorem okk_any (b : Bool) (w : World) : Calls Try.prog 25 #[.bool b] w fun e w' => e = .returned (.int .i64 (okk b)) ∧ w = w' := by
  cases b
  · go_enter Try.func25, Try.ntmps25
    go_wp2
    go_ret
    exact ⟨rfl, rfl⟩
  · go_enter Try.func25, Try.ntmps25
    go_wp2
    go_ret
    exact ⟨rfl, rfl⟩

theorem qe_okk (v : Int) (b : Bool) (h : I64 v ↔ b = true) : qe v = okk b := by
  unfold qe okk
  by_cases c : I64 v
  · rw [if_pos c, if_pos (h.1 c)]
  · rw [if_neg c, if_neg (fun x => c (h.2 x))]

set_option maxHeartbeats 1600000 in
theorem edges_law (k : Int) (wk : (Lit.int .u8 k).wf = true) (w : World) :
    Calls Try.prog 8 #[.int .u8 k] w fun e w' => e = .returned (.bool true) ∧ Grown w w' := by
  obtain ⟨k1, k2⟩ := u8_range' wk
  obtain ⟨n, hn⟩ : ∃ n, k % 5 = n + 2 := ⟨k % 5 - 2, by omega⟩
  have n1 : -2 ≤ n := by omega
  have n2 : n ≤ 2 := by omega
  have im : I64 9223372036854775807 := by decide
  have il : I64 (-9223372036854775808) := by decide
  have inn : I64 n := by unfold I64; omega
  have c1 := fun w => add_any 9223372036854775807 n im inn w
  have c2 := fun w => add_any (-9223372036854775808) n il inn w
  have c3 := fun w => sub_any 9223372036854775807 n im inn w
  have c4 := fun w => sub_any (-9223372036854775808) n il inn w
  have c5 := fun w => mul_any (-9223372036854775808) n il inn w
  have c6 := fun w => muldiv_any (-9223372036854775808) n n true il inn inn w
  have c7 := fun w => muldiv_any (-9223372036854775808) 1 (-1) false il (by decide) (by decide) w
  rw [qe_okk _ (decide (n ≤ 0)) (by unfold I64; simp; omega)] at c1
  rw [qe_okk _ (decide (0 ≤ n)) (by unfold I64; simp; omega)] at c2
  rw [qe_okk _ (decide (0 ≤ n)) (by unfold I64; simp; omega)] at c3
  rw [qe_okk _ (decide (n ≤ 0)) (by unfold I64; simp; omega)] at c4
  have e7 : me (-9223372036854775808) 1 (-1) false = 21 := by decide
  rw [e7] at c7
  generalize mv (-9223372036854775808) 1 (-1) false = V7 at c7
  generalize qv (9223372036854775807 + n) = V1 at c1
  generalize qv (-9223372036854775808 + n) = V2 at c2
  generalize qv (9223372036854775807 - n) = V3 at c3
  generalize qv (-9223372036854775808 - n) = V4 at c4
  have hk : IntKind.i64.wrap (k % 5) - 2 = n := by rw [IntKind.wrap_i64]; omega
  have hk' : k % 5 - 2 = n := by omega
  clear wk im il inn e7 hn
  have e5 : qe (-9223372036854775808 * n) = okk (n == 0 || n == 1) := qe_okk _ _ (by unfold I64; simp; omega)
  rw [e5] at c5
  generalize qv (-9223372036854775808 * n) = V5 at c5
  clear e5
  have hc : (n == 0) = true ∨ ((n == 0) = false ∧ (n == 1) = true) ∨ ((n == 0) = false ∧ (n == 1) = false) := by
    cases n == 0 <;> cases n == 1 <;> simp
  have h6 : (n == 0) = false → mv (-9223372036854775808) n n true = -9223372036854775808 ∧ me (-9223372036854775808) n n true = 0 := fun h => mv_scale _ _ _ (by simpa using h) (by decide)
  rcases hc with h0 | ⟨h0, h1⟩ | ⟨h0, h1⟩
  · have e6 : mv (-9223372036854775808) n n true = 0 ∧ me (-9223372036854775808) n n true = 22 := by
      have : n = 0 := by simpa using h0
      subst this
      exact ⟨rfl, rfl⟩
    rw [e6.1, e6.2] at c6
    rw [h0, Bool.true_or] at c5
    clear e6 h6
    go_enter Try.func8, Try.ntmps8
    go_wp2_with fail
    refine (known_any _).mono ?_
    rintro e w0 ⟨rfl, g0⟩
    go_wp2_with fail
    refine (c1 _).mono ?_
    rintro e w1 ⟨rfl, rfl⟩
    go_wp2_with fail
    refine (c2 _).mono ?_
    rintro e w1 ⟨rfl, rfl⟩
    go_wp2_with fail
    refine (c3 _).mono ?_
    rintro e w1 ⟨rfl, rfl⟩
    go_wp2_with fail
    refine (c4 _).mono ?_
    rintro e w1 ⟨rfl, rfl⟩
    go_wp2_with fail
    refine (c5 _).mono ?_
    rintro e w5 ⟨rfl, g5⟩
    go_wp2_with fail
    refine (c6 _).mono ?_
    rintro e w6 ⟨rfl, g6⟩
    go_wp2_with fail
    refine (c7 _).mono ?_
    rintro e w7 ⟨rfl, g7⟩
    go_wp2_with fail
    refine (okk_any _ _).mono ?_
    rintro e w1 ⟨rfl, rfl⟩
    go_wp2_with fail
    refine (okk_any _ _).mono ?_
    rintro e w1 ⟨rfl, rfl⟩
    go_wp2_with fail
    refine (okk_any _ _).mono ?_
    rintro e w1 ⟨rfl, rfl⟩
    go_wp2_with fail
    refine (okk_any _ _).mono ?_
    rintro e w1 ⟨rfl, rfl⟩
    go_wp2_with fail
    refine (okk_any _ _).mono ?_
    rintro e w1 ⟨rfl, rfl⟩
    go_wp2
    go_ret
    exact ⟨rfl, (((g0.trans g5).trans g6).trans g7).q.grown⟩
  · rw [(h6 h0).1, (h6 h0).2] at c6
    rw [h0, h1, Bool.false_or] at c5
    have p0 : ¬ n = 0 := by simpa using h0
    have p1 : (n != 0) = true := by simpa using p0
    clear h6
    go_enter Try.func8, Try.ntmps8
    go_wp2_with fail
    refine (known_any _).mono ?_
    rintro e w0 ⟨rfl, g0⟩
    go_wp2_with fail
    refine (c1 _).mono ?_
    rintro e w1 ⟨rfl, rfl⟩
    go_wp2_with fail
    refine (c2 _).mono ?_
    rintro e w1 ⟨rfl, rfl⟩
    go_wp2_with fail
    refine (c3 _).mono ?_
    rintro e w1 ⟨rfl, rfl⟩
    go_wp2_with fail
    refine (c4 _).mono ?_
    rintro e w1 ⟨rfl, rfl⟩
    go_wp2_with fail
    refine (c5 _).mono ?_
    rintro e w5 ⟨rfl, g5⟩
    go_wp2_with fail
    refine (c6 _).mono ?_
    rintro e w6 ⟨rfl, g6⟩
    go_wp2_with fail
    refine (c7 _).mono ?_
    rintro e w7 ⟨rfl, g7⟩
    go_wp2_with fail
    refine (okk_any _ _).mono ?_
    rintro e w1 ⟨rfl, rfl⟩
    go_wp2_with fail
    refine (okk_any _ _).mono ?_
    rintro e w1 ⟨rfl, rfl⟩
    go_wp2_with fail
    refine (okk_any _ _).mono ?_
    rintro e w1 ⟨rfl, rfl⟩
    go_wp2_with fail
    refine (okk_any _ _).mono ?_
    rintro e w1 ⟨rfl, rfl⟩
    go_wp2_with fail
    refine (okk_any _ _).mono ?_
    rintro e w1 ⟨rfl, rfl⟩
    go_wp2
    go_ret
    exact ⟨rfl, (((g0.trans g5).trans g6).trans g7).q.grown⟩
  · rw [(h6 h0).1, (h6 h0).2] at c6
    rw [h0, h1, Bool.false_or] at c5
    have p0 : ¬ n = 0 := by simpa using h0
    have p1 : (n != 0) = true := by simpa using p0
    clear h6
    go_enter Try.func8, Try.ntmps8
    go_wp2_with fail
    refine (known_any _).mono ?_
    rintro e w0 ⟨rfl, g0⟩
    go_wp2_with fail
    refine (c1 _).mono ?_
    rintro e w1 ⟨rfl, rfl⟩
    go_wp2_with fail
    refine (c2 _).mono ?_
    rintro e w1 ⟨rfl, rfl⟩
    go_wp2_with fail
    refine (c3 _).mono ?_
    rintro e w1 ⟨rfl, rfl⟩
    go_wp2_with fail
    refine (c4 _).mono ?_
    rintro e w1 ⟨rfl, rfl⟩
    go_wp2_with fail
    refine (c5 _).mono ?_
    rintro e w5 ⟨rfl, g5⟩
    go_wp2_with fail
    refine (c6 _).mono ?_
    rintro e w6 ⟨rfl, g6⟩
    go_wp2_with fail
    refine (c7 _).mono ?_
    rintro e w7 ⟨rfl, g7⟩
    go_wp2_with fail
    refine (okk_any _ _).mono ?_
    rintro e w1 ⟨rfl, rfl⟩
    go_wp2_with fail
    refine (okk_any _ _).mono ?_
    rintro e w1 ⟨rfl, rfl⟩
    go_wp2_with fail
    refine (okk_any _ _).mono ?_
    rintro e w1 ⟨rfl, rfl⟩
    go_wp2_with fail
    refine (okk_any _ _).mono ?_
    rintro e w1 ⟨rfl, rfl⟩
    go_wp2_with fail
    refine (okk_any _ _).mono ?_
    rintro e w1 ⟨rfl, rfl⟩
    go_wp2
    go_ret
    exact ⟨rfl, (((g0.trans g5).trans g6).trans g7).q.grown⟩
end Go.Proofs.Ytfopgblhkophpaa
