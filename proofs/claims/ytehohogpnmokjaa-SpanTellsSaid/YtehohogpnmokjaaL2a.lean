/-
  Layer 2: what the statements' help answers: 'known' is true.
-/
import Derived.Test.YtehohogpnmokjaaSadd
namespace Go.Proofs.Ytehohogpnmokjaa
open Go.RowKit

theorem i32_range {k : Int} (w : (Lit.int .i32 k).wf = true) : -2147483648 ≤ k ∧ k ≤ 2147483647 := by
  simp [Lit.wf, IntKind.min, IntKind.max, IntKind.signed, IntKind.bits] at w
  omega
theorem u16_range {k : Int} (w : (Lit.int .u16 k).wf = true) : 0 ≤ k ∧ k ≤ 65535 := by
  simp [Lit.wf, IntKind.min, IntKind.max, IntKind.signed, IntKind.bits] at w
  omega
theorem u8_range2 {k : Int} (w : (Lit.int .u8 k).wf = true) : 0 ≤ k ∧ k ≤ 255 := by
  simp [Lit.wf, IntKind.min, IntKind.max, IntKind.signed, IntKind.bits] at w
  omega

theorem known2_any (w : World) : Calls Try.prog 8 #[] w fun e w' => e = .returned (.bool true) ∧ Q w w' := by
  have c1 := fun w => ssub_any 5 6 1 2 (by decide) (by decide) (by decide) (by decide) w
  have c2 := fun w => sadd_any 2 1 0 0 (by decide) (by decide) (by decide) (by decide) w
  have c3 := fun w => right_any 3 5 w
  have c4 := fun w => has_any 3 5 4 (by decide) (by decide) (by decide) w
  rw [show spV (decide ((5 : Int) ≤ 6) && decide ((1 : Int) ≤ 2)) (5 - 2) (6 - 1) (5 - 2) = 3 by decide, show spV (decide ((5 : Int) ≤ 6) && decide ((1 : Int) ≤ 2)) (5 - 2) (6 - 1) (6 - 1) = 5 by decide, show spE (decide ((5 : Int) ≤ 6) && decide ((1 : Int) ≤ 2)) (5 - 2) (6 - 1) = 0 by decide] at c1
  rw [show spV (decide ((2 : Int) ≤ 1) && decide ((0 : Int) ≤ 0)) (2 + 0) (1 + 0) (2 + 0) = 0 by decide, show spV (decide ((2 : Int) ≤ 1) && decide ((0 : Int) ≤ 0)) (2 + 0) (1 + 0) (1 + 0) = 0 by decide, show spE (decide ((2 : Int) ≤ 1) && decide ((0 : Int) ≤ 0)) (2 + 0) (1 + 0) = 20 by decide] at c2
  rw [show decide ((3 : Int) ≤ 5) = true by decide] at c3
  rw [show (decide ((3 : Int) ≤ 4) && decide ((4 : Int) ≤ 5)) = true by decide] at c4
  go_enter Try.func8, Try.ntmps8
  go_wp2_with fail
  refine (c1 _).mono ?_
  rintro e w1 ⟨rfl, h1⟩
  go_wp2_with fail
  refine (c2 _).mono ?_
  rintro e w2 ⟨rfl, h2⟩
  have s0 := h2.keep (p := ⟨w1.heap.size, 0, none⟩) (v := .int .i64 3) (by simp [go_sem])
  have s1 := h2.keep (p := ⟨w1.heap.size, 1, none⟩) (v := .int .i64 5) (by simp [go_sem])
  have g2 := (h1.alloc _ _).trans h2
  clear h1 h2
  generalize w1.heap.size = b at *
  have hb : b < w2.heap.size := World.block_lt_of_cell? _ _ s0
  go_wp2_with fail
  refine (c3 _).mono ?_
  rintro e w3 ⟨rfl, h3⟩
  replace h3 := ((Q.refl w2).alloc _ _).trans h3
  replace s0 := h3.keep s0
  replace s1 := h3.keep s1
  replace g2 := g2.trans h3
  replace hb : b < w3.heap.size := World.block_lt_of_cell? _ _ s0
  clear h3
  go_wp2_with fail
  refine (c4 _).mono ?_
  rintro e w4 ⟨rfl, h4⟩
  replace g2 := g2.trans h4
  clear h4
  go_wp2
  go_ret
  exact ⟨rfl, g2⟩
end Go.Proofs.Ytehohogpnmokjaa
