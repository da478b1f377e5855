/-
  Contracts of the document's own sums, differences, widenings of spans.
-/
import Derived.Test.YtehohogpnmokjaaSw
import Derived.Test.YtehohogpnmokjaaRadd
namespace Go.Proofs.Ytehohogpnmokjaa
open Go.RowKit

theorem rboth_any (x y : Int) (w : World) :
    Calls Try.prog 25 #[.int .i64 (qv x), .int .i64 (qe x), .int .i64 (qv y), .int .i64 (qe y)] w fun e w' => e = .returned (.tuple #[.agg #[.int .i64 (spV true x y x), .int .i64 (spV true x y y)], .int .i64 (spE true x y)]) ∧ Q w w' := by
  by_cases i1 : I64 x
  · rw [qv_yes i1, qe_yes i1]
    by_cases i2 : I64 y
    · rw [qv_yes i2, qe_yes i2, spV_yes _ i1 i2, spV_yes _ i1 i2, spE_yes i1 i2]
      clear i1 i2
      go_enter Try.func25, Try.ntmps25
      go_wp2
      exact bodyPost_ret (v := .tuple #[.agg #[.int .i64 x, .int .i64 y], .int .i64 0]) (by simp [results, Try.results25, go_sem]) rfl ⟨rfl, (Q.refl w).alloc _ _⟩
    · have n := fun h : I64 x ∧ I64 y => i2 h.2
      rw [qv_no i2, qe_no i2, spV_no _ n, spV_no _ n, spE_no n]
      clear i1 i2 n
      go_enter Try.func25, Try.ntmps25
      go_wp2
      exact bodyPost_ret (v := .tuple #[.agg #[.int .i64 0, .int .i64 0], .int .i64 21]) (by simp [results, Try.results25, go_sem]) rfl ⟨rfl, (Q.refl w).alloc _ _⟩
  · have n := fun h : I64 x ∧ I64 y => i1 h.1
    rw [qv_no i1, qe_no i1, spV_no _ n, spV_no _ n, spE_no n]
    generalize qv y = V
    generalize qe y = E
    clear i1 n
    go_enter Try.func25, Try.ntmps25
    go_wp2
    exact bodyPost_ret (v := .tuple #[.agg #[.int .i64 0, .int .i64 0], .int .i64 21]) (by simp [results, Try.results25, go_sem]) rfl ⟨rfl, (Q.refl w).alloc _ _⟩

theorem rsadd_any (al ah bl bh : Int) (hal : I64 al) (hah : I64 ah) (hbl : I64 bl) (hbh : I64 bh) (w : World) :
    Calls Try.prog 10 #[.agg #[.int .i64 al, .int .i64 ah], .agg #[.int .i64 bl, .int .i64 bh]] w fun e w' => e = .returned (.tuple #[.agg #[.int .i64 (spV (decide (al ≤ ah) && decide (bl ≤ bh)) (al + bl) (ah + bh) (al + bl)), .int .i64 (spV (decide (al ≤ ah) && decide (bl ≤ bh)) (al + bl) (ah + bh) (ah + bh))], .int .i64 (spE (decide (al ≤ ah) && decide (bl ≤ bh)) (al + bl) (ah + bh))]) ∧ Q w w' := by
  have c0 := fun w => rright_any al ah w
  have c1 := fun w => rright_any bl bh w
  have c2 := fun w => radd_any al bl hal hbl w
  have c3 := fun w => radd_any ah bh hah hbh w
  have c4 := fun w => rboth_any (al + bl) (ah + bh) w
  clear hal hah hbl hbh
  by_cases r0 : al ≤ ah
  · rw [decide_eq_true r0, Bool.true_and]
    rw [decide_eq_true r0] at c0
    by_cases r1 : bl ≤ bh
    · rw [decide_eq_true r1]
      rw [decide_eq_true r1] at c1
      clear r0 r1
      generalize qv (al + bl) = V1 at *
      generalize qe (al + bl) = E1 at *
      generalize qv (ah + bh) = V2 at *
      generalize qe (ah + bh) = E2 at *
      generalize spV true (al + bl) (ah + bh) (al + bl) = X at *
      generalize spV true (al + bl) (ah + bh) (ah + bh) = Y at *
      generalize spE true (al + bl) (ah + bh) = Z at *
      go_enter Try.func10, Try.ntmps10
      go_wp2_with fail
      refine (c0 _).mono ?_
      rintro e w1 ⟨rfl, h1⟩
      have a0 := h1.keep (p := ⟨w.heap.size, 0, none⟩) (v := .int .i64 al) (by simp [go_sem])
      have a1 := h1.keep (p := ⟨w.heap.size, 1, none⟩) (v := .int .i64 ah) (by simp [go_sem])
      have b0 := h1.keep (p := ⟨w.heap.size + 1, 0, none⟩) (v := .int .i64 bl) (by simp [go_sem])
      have b1 := h1.keep (p := ⟨w.heap.size + 1, 1, none⟩) (v := .int .i64 bh) (by simp [go_sem])
      have z0 := h1.keep (p := ⟨w.heap.size + 1 + 1, 0, none⟩) (v := .int .i64 0) (by simp [go_sem])
      have z1 := h1.keep (p := ⟨w.heap.size + 1 + 1, 1, none⟩) (v := .int .i64 0) (by simp [go_sem])
      have f0 : w1.frozen? ⟨w.heap.size + 1 + 1, 0, none⟩ = false := by rw [h1.marks]; simp [go_sem]
      have f1 : w1.frozen? ⟨w.heap.size + 1 + 1, 1, none⟩ = false := by rw [h1.marks]; simp [go_sem]
      have hz : w.heap.size + 1 + 1 < w1.heap.size := by have := h1.below.size; simp at this; omega
      have g1 := (((((Q.refl w).alloc _ _).alloc _ _).alloc _ _).trans h1)
      clear h1
      go_wp2_with fail
      refine (c1 _).mono ?_
      rintro e w2 ⟨rfl, h2⟩
      replace a0 := h2.keep a0
      replace a1 := h2.keep a1
      replace b0 := h2.keep b0
      replace b1 := h2.keep b1
      replace z0 := h2.keep z0
      replace z1 := h2.keep z1
      replace f0 : w2.frozen? ⟨w.heap.size + 1 + 1, 0, none⟩ = false := by rw [h2.marks]; exact f0
      replace f1 : w2.frozen? ⟨w.heap.size + 1 + 1, 1, none⟩ = false := by rw [h2.marks]; exact f1
      replace hz : w.heap.size + 1 + 1 < w2.heap.size := Nat.lt_of_lt_of_le hz h2.below.size
      replace g1 := g1.trans h2
      clear h2
      go_wp2_with fail
      refine (c2 _).mono ?_
      rintro e w3 ⟨rfl, rfl⟩
      go_wp2_with fail
      refine (c3 _).mono ?_
      rintro e w3 ⟨rfl, rfl⟩
      go_wp2_with fail
      refine (c4 _).mono ?_
      rintro e w4 ⟨rfl, h4⟩
      replace z0 := h4.keep z0
      replace z1 := h4.keep z1
      replace f0 : w4.frozen? ⟨w.heap.size + 1 + 1, 0, none⟩ = false := by rw [h4.marks]; exact f0
      replace f1 : w4.frozen? ⟨w.heap.size + 1 + 1, 1, none⟩ = false := by rw [h4.marks]; exact f1
      replace hz : w.heap.size + 1 + 1 < w4.heap.size := Nat.lt_of_lt_of_le hz h4.below.size
      replace g1 := g1.trans h4
      clear h4 a0 a1 b0 b1
      go_wp2
      exact bodyPost_ret (v := .tuple #[.agg #[.int .i64 X, .int .i64 Y], .int .i64 Z]) (by simp [results, Try.results10, go_sem, *]) rfl ⟨rfl, (g1.setCell (by simp; omega) _).setCell (by simp; omega) _⟩
    · rw [decide_eq_false r1, spV_wrong, spV_wrong, spE_wrong]
      rw [decide_eq_false r1] at c1
      clear r0 r1 c2 c3 c4
      go_enter Try.func10, Try.ntmps10
      go_wp2_with fail
      refine (c0 _).mono ?_
      rintro e w1 ⟨rfl, h1⟩
      have a0 := h1.keep (p := ⟨w.heap.size, 0, none⟩) (v := .int .i64 al) (by simp [go_sem])
      have a1 := h1.keep (p := ⟨w.heap.size, 1, none⟩) (v := .int .i64 ah) (by simp [go_sem])
      have b0 := h1.keep (p := ⟨w.heap.size + 1, 0, none⟩) (v := .int .i64 bl) (by simp [go_sem])
      have b1 := h1.keep (p := ⟨w.heap.size + 1, 1, none⟩) (v := .int .i64 bh) (by simp [go_sem])
      have z0 := h1.keep (p := ⟨w.heap.size + 1 + 1, 0, none⟩) (v := .int .i64 0) (by simp [go_sem])
      have z1 := h1.keep (p := ⟨w.heap.size + 1 + 1, 1, none⟩) (v := .int .i64 0) (by simp [go_sem])
      have f0 : w1.frozen? ⟨w.heap.size + 1 + 1, 0, none⟩ = false := by rw [h1.marks]; simp [go_sem]
      have f1 : w1.frozen? ⟨w.heap.size + 1 + 1, 1, none⟩ = false := by rw [h1.marks]; simp [go_sem]
      have hz : w.heap.size + 1 + 1 < w1.heap.size := by have := h1.below.size; simp at this; omega
      have g1 := (((((Q.refl w).alloc _ _).alloc _ _).alloc _ _).trans h1)
      clear h1
      go_wp2_with fail
      refine (c1 _).mono ?_
      rintro e w2 ⟨rfl, h2⟩
      replace a0 := h2.keep a0
      replace a1 := h2.keep a1
      replace b0 := h2.keep b0
      replace b1 := h2.keep b1
      replace z0 := h2.keep z0
      replace z1 := h2.keep z1
      replace f0 : w2.frozen? ⟨w.heap.size + 1 + 1, 0, none⟩ = false := by rw [h2.marks]; exact f0
      replace f1 : w2.frozen? ⟨w.heap.size + 1 + 1, 1, none⟩ = false := by rw [h2.marks]; exact f1
      replace hz : w.heap.size + 1 + 1 < w2.heap.size := Nat.lt_of_lt_of_le hz h2.below.size
      replace g1 := g1.trans h2
      clear h2
      go_wp2
      exact bodyPost_ret (v := .tuple #[.agg #[.int .i64 0, .int .i64 0], .int .i64 20]) (by simp [results, Try.results10, go_sem, *]) rfl ⟨rfl, (g1.setCell (by simp; omega) _).setCell (by simp; omega) _⟩
  · rw [decide_eq_false r0, Bool.false_and, spV_wrong, spV_wrong, spE_wrong]
    rw [decide_eq_false r0] at c0
    clear r0 c1 c2 c3 c4
    go_enter Try.func10, Try.ntmps10
    go_wp2_with fail
    refine (c0 _).mono ?_
    rintro e w1 ⟨rfl, h1⟩
    have a0 := h1.keep (p := ⟨w.heap.size, 0, none⟩) (v := .int .i64 al) (by simp [go_sem])
    have a1 := h1.keep (p := ⟨w.heap.size, 1, none⟩) (v := .int .i64 ah) (by simp [go_sem])
    have b0 := h1.keep (p := ⟨w.heap.size + 1, 0, none⟩) (v := .int .i64 bl) (by simp [go_sem])
    have b1 := h1.keep (p := ⟨w.heap.size + 1, 1, none⟩) (v := .int .i64 bh) (by simp [go_sem])
    have z0 := h1.keep (p := ⟨w.heap.size + 1 + 1, 0, none⟩) (v := .int .i64 0) (by simp [go_sem])
    have z1 := h1.keep (p := ⟨w.heap.size + 1 + 1, 1, none⟩) (v := .int .i64 0) (by simp [go_sem])
    have f0 : w1.frozen? ⟨w.heap.size + 1 + 1, 0, none⟩ = false := by rw [h1.marks]; simp [go_sem]
    have f1 : w1.frozen? ⟨w.heap.size + 1 + 1, 1, none⟩ = false := by rw [h1.marks]; simp [go_sem]
    have hz : w.heap.size + 1 + 1 < w1.heap.size := by have := h1.below.size; simp at this; omega
    have g1 := (((((Q.refl w).alloc _ _).alloc _ _).alloc _ _).trans h1)
    clear h1
    go_wp2
    exact bodyPost_ret (v := .tuple #[.agg #[.int .i64 0, .int .i64 0], .int .i64 20]) (by simp [results, Try.results10, go_sem, *]) rfl ⟨rfl, (g1.setCell (by simp; omega) _).setCell (by simp; omega) _⟩

theorem rssub_any (al ah bl bh : Int) (hal : I64 al) (hah : I64 ah) (hbl : I64 bl) (hbh : I64 bh) (w : World) :
    Calls Try.prog 12 #[.agg #[.int .i64 al, .int .i64 ah], .agg #[.int .i64 bl, .int .i64 bh]] w fun e w' => e = .returned (.tuple #[.agg #[.int .i64 (spV (decide (al ≤ ah) && decide (bl ≤ bh)) (al - bh) (ah - bl) (al - bh)), .int .i64 (spV (decide (al ≤ ah) && decide (bl ≤ bh)) (al - bh) (ah - bl) (ah - bl))], .int .i64 (spE (decide (al ≤ ah) && decide (bl ≤ bh)) (al - bh) (ah - bl))]) ∧ Q w w' := by
  have c0 := fun w => rright_any al ah w
  have c1 := fun w => rright_any bl bh w
  have c2 := fun w => rsub_any al bh hal hbh w
  have c3 := fun w => rsub_any ah bl hah hbl w
  have c4 := fun w => rboth_any (al - bh) (ah - bl) w
  clear hal hah hbl hbh
  by_cases r0 : al ≤ ah
  · rw [decide_eq_true r0, Bool.true_and]
    rw [decide_eq_true r0] at c0
    by_cases r1 : bl ≤ bh
    · rw [decide_eq_true r1]
      rw [decide_eq_true r1] at c1
      clear r0 r1
      generalize qv (al - bh) = V1 at *
      generalize qe (al - bh) = E1 at *
      generalize qv (ah - bl) = V2 at *
      generalize qe (ah - bl) = E2 at *
      generalize spV true (al - bh) (ah - bl) (al - bh) = X at *
      generalize spV true (al - bh) (ah - bl) (ah - bl) = Y at *
      generalize spE true (al - bh) (ah - bl) = Z at *
      go_enter Try.func12, Try.ntmps12
      go_wp2_with fail
      refine (c0 _).mono ?_
      rintro e w1 ⟨rfl, h1⟩
      have a0 := h1.keep (p := ⟨w.heap.size, 0, none⟩) (v := .int .i64 al) (by simp [go_sem])
      have a1 := h1.keep (p := ⟨w.heap.size, 1, none⟩) (v := .int .i64 ah) (by simp [go_sem])
      have b0 := h1.keep (p := ⟨w.heap.size + 1, 0, none⟩) (v := .int .i64 bl) (by simp [go_sem])
      have b1 := h1.keep (p := ⟨w.heap.size + 1, 1, none⟩) (v := .int .i64 bh) (by simp [go_sem])
      have z0 := h1.keep (p := ⟨w.heap.size + 1 + 1, 0, none⟩) (v := .int .i64 0) (by simp [go_sem])
      have z1 := h1.keep (p := ⟨w.heap.size + 1 + 1, 1, none⟩) (v := .int .i64 0) (by simp [go_sem])
      have f0 : w1.frozen? ⟨w.heap.size + 1 + 1, 0, none⟩ = false := by rw [h1.marks]; simp [go_sem]
      have f1 : w1.frozen? ⟨w.heap.size + 1 + 1, 1, none⟩ = false := by rw [h1.marks]; simp [go_sem]
      have hz : w.heap.size + 1 + 1 < w1.heap.size := by have := h1.below.size; simp at this; omega
      have g1 := (((((Q.refl w).alloc _ _).alloc _ _).alloc _ _).trans h1)
      clear h1
      go_wp2_with fail
      refine (c1 _).mono ?_
      rintro e w2 ⟨rfl, h2⟩
      replace a0 := h2.keep a0
      replace a1 := h2.keep a1
      replace b0 := h2.keep b0
      replace b1 := h2.keep b1
      replace z0 := h2.keep z0
      replace z1 := h2.keep z1
      replace f0 : w2.frozen? ⟨w.heap.size + 1 + 1, 0, none⟩ = false := by rw [h2.marks]; exact f0
      replace f1 : w2.frozen? ⟨w.heap.size + 1 + 1, 1, none⟩ = false := by rw [h2.marks]; exact f1
      replace hz : w.heap.size + 1 + 1 < w2.heap.size := Nat.lt_of_lt_of_le hz h2.below.size
      replace g1 := g1.trans h2
      clear h2
      go_wp2_with fail
      refine (c2 _).mono ?_
      rintro e w3 ⟨rfl, rfl⟩
      go_wp2_with fail
      refine (c3 _).mono ?_
      rintro e w3 ⟨rfl, rfl⟩
      go_wp2_with fail
      refine (c4 _).mono ?_
      rintro e w4 ⟨rfl, h4⟩
      replace z0 := h4.keep z0
      replace z1 := h4.keep z1
      replace f0 : w4.frozen? ⟨w.heap.size + 1 + 1, 0, none⟩ = false := by rw [h4.marks]; exact f0
      replace f1 : w4.frozen? ⟨w.heap.size + 1 + 1, 1, none⟩ = false := by rw [h4.marks]; exact f1
      replace hz : w.heap.size + 1 + 1 < w4.heap.size := Nat.lt_of_lt_of_le hz h4.below.size
      replace g1 := g1.trans h4
      clear h4 a0 a1 b0 b1
      go_wp2
      exact bodyPost_ret (v := .tuple #[.agg #[.int .i64 X, .int .i64 Y], .int .i64 Z]) (by simp [results, Try.results12, go_sem, *]) rfl ⟨rfl, (g1.setCell (by simp; omega) _).setCell (by simp; omega) _⟩
    · rw [decide_eq_false r1, spV_wrong, spV_wrong, spE_wrong]
      rw [decide_eq_false r1] at c1
      clear r0 r1 c2 c3 c4
      go_enter Try.func12, Try.ntmps12
      go_wp2_with fail
      refine (c0 _).mono ?_
      rintro e w1 ⟨rfl, h1⟩
      have a0 := h1.keep (p := ⟨w.heap.size, 0, none⟩) (v := .int .i64 al) (by simp [go_sem])
      have a1 := h1.keep (p := ⟨w.heap.size, 1, none⟩) (v := .int .i64 ah) (by simp [go_sem])
      have b0 := h1.keep (p := ⟨w.heap.size + 1, 0, none⟩) (v := .int .i64 bl) (by simp [go_sem])
      have b1 := h1.keep (p := ⟨w.heap.size + 1, 1, none⟩) (v := .int .i64 bh) (by simp [go_sem])
      have z0 := h1.keep (p := ⟨w.heap.size + 1 + 1, 0, none⟩) (v := .int .i64 0) (by simp [go_sem])
      have z1 := h1.keep (p := ⟨w.heap.size + 1 + 1, 1, none⟩) (v := .int .i64 0) (by simp [go_sem])
      have f0 : w1.frozen? ⟨w.heap.size + 1 + 1, 0, none⟩ = false := by rw [h1.marks]; simp [go_sem]
      have f1 : w1.frozen? ⟨w.heap.size + 1 + 1, 1, none⟩ = false := by rw [h1.marks]; simp [go_sem]
      have hz : w.heap.size + 1 + 1 < w1.heap.size := by have := h1.below.size; simp at this; omega
      have g1 := (((((Q.refl w).alloc _ _).alloc _ _).alloc _ _).trans h1)
      clear h1
      go_wp2_with fail
      refine (c1 _).mono ?_
      rintro e w2 ⟨rfl, h2⟩
      replace a0 := h2.keep a0
      replace a1 := h2.keep a1
      replace b0 := h2.keep b0
      replace b1 := h2.keep b1
      replace z0 := h2.keep z0
      replace z1 := h2.keep z1
      replace f0 : w2.frozen? ⟨w.heap.size + 1 + 1, 0, none⟩ = false := by rw [h2.marks]; exact f0
      replace f1 : w2.frozen? ⟨w.heap.size + 1 + 1, 1, none⟩ = false := by rw [h2.marks]; exact f1
      replace hz : w.heap.size + 1 + 1 < w2.heap.size := Nat.lt_of_lt_of_le hz h2.below.size
      replace g1 := g1.trans h2
      clear h2
      go_wp2
      exact bodyPost_ret (v := .tuple #[.agg #[.int .i64 0, .int .i64 0], .int .i64 20]) (by simp [results, Try.results12, go_sem, *]) rfl ⟨rfl, (g1.setCell (by simp; omega) _).setCell (by simp; omega) _⟩
  · rw [decide_eq_false r0, Bool.false_and, spV_wrong, spV_wrong, spE_wrong]
    rw [decide_eq_false r0] at c0
    clear r0 c1 c2 c3 c4
    go_enter Try.func12, Try.ntmps12
    go_wp2_with fail
    refine (c0 _).mono ?_
    rintro e w1 ⟨rfl, h1⟩
    have a0 := h1.keep (p := ⟨w.heap.size, 0, none⟩) (v := .int .i64 al) (by simp [go_sem])
    have a1 := h1.keep (p := ⟨w.heap.size, 1, none⟩) (v := .int .i64 ah) (by simp [go_sem])
    have b0 := h1.keep (p := ⟨w.heap.size + 1, 0, none⟩) (v := .int .i64 bl) (by simp [go_sem])
    have b1 := h1.keep (p := ⟨w.heap.size + 1, 1, none⟩) (v := .int .i64 bh) (by simp [go_sem])
    have z0 := h1.keep (p := ⟨w.heap.size + 1 + 1, 0, none⟩) (v := .int .i64 0) (by simp [go_sem])
    have z1 := h1.keep (p := ⟨w.heap.size + 1 + 1, 1, none⟩) (v := .int .i64 0) (by simp [go_sem])
    have f0 : w1.frozen? ⟨w.heap.size + 1 + 1, 0, none⟩ = false := by rw [h1.marks]; simp [go_sem]
    have f1 : w1.frozen? ⟨w.heap.size + 1 + 1, 1, none⟩ = false := by rw [h1.marks]; simp [go_sem]
    have hz : w.heap.size + 1 + 1 < w1.heap.size := by have := h1.below.size; simp at this; omega
    have g1 := (((((Q.refl w).alloc _ _).alloc _ _).alloc _ _).trans h1)
    clear h1
    go_wp2
    exact bodyPost_ret (v := .tuple #[.agg #[.int .i64 0, .int .i64 0], .int .i64 20]) (by simp [results, Try.results12, go_sem, *]) rfl ⟨rfl, (g1.setCell (by simp; omega) _).setCell (by simp; omega) _⟩

theorem rswide_any (sl sh by_ : Int) (hsl : I64 sl) (hsh : I64 sh) (hby : I64 by_) (w : World) :
    Calls Try.prog 14 #[.agg #[.int .i64 sl, .int .i64 sh], .int .i64 by_] w fun e w' => e = .returned (.tuple #[.agg #[.int .i64 (spV (decide (sl ≤ sh) && decide (0 ≤ by_)) (sl - by_) (sh + by_) (sl - by_)), .int .i64 (spV (decide (sl ≤ sh) && decide (0 ≤ by_)) (sl - by_) (sh + by_) (sh + by_))], .int .i64 (spE (decide (sl ≤ sh) && decide (0 ≤ by_)) (sl - by_) (sh + by_))]) ∧ Q w w' := by
  have c0 := fun w => rright_any sl sh w
  have c2 := fun w => rsub_any sl by_ hsl hby w
  have c3 := fun w => radd_any sh by_ hsh hby w
  have c4 := fun w => rboth_any (sl - by_) (sh + by_) w
  clear hsl hsh hby
  by_cases r0 : sl ≤ sh
  · rw [decide_eq_true r0, Bool.true_and]
    rw [decide_eq_true r0] at c0
    by_cases n : 0 ≤ by_
    · rw [decide_eq_true n]
      have n' : decide (by_ < 0) = false := decide_eq_false (by omega)
      clear r0 n
      generalize qv (sl - by_) = V1 at *
      generalize qe (sl - by_) = E1 at *
      generalize qv (sh + by_) = V2 at *
      generalize qe (sh + by_) = E2 at *
      generalize spV true (sl - by_) (sh + by_) (sl - by_) = X at *
      generalize spV true (sl - by_) (sh + by_) (sh + by_) = Y at *
      generalize spE true (sl - by_) (sh + by_) = Z at *
      go_enter Try.func14, Try.ntmps14
      go_wp2_with fail
      refine (c0 _).mono ?_
      rintro e w1 ⟨rfl, h1⟩
      have a0 := h1.keep (p := ⟨w.heap.size, 0, none⟩) (v := .int .i64 sl) (by simp [go_sem])
      have a1 := h1.keep (p := ⟨w.heap.size, 1, none⟩) (v := .int .i64 sh) (by simp [go_sem])
      have z0 := h1.keep (p := ⟨w.heap.size + 1, 0, none⟩) (v := .int .i64 0) (by simp [go_sem])
      have z1 := h1.keep (p := ⟨w.heap.size + 1, 1, none⟩) (v := .int .i64 0) (by simp [go_sem])
      have f0 : w1.frozen? ⟨w.heap.size + 1, 0, none⟩ = false := by rw [h1.marks]; simp [go_sem]
      have f1 : w1.frozen? ⟨w.heap.size + 1, 1, none⟩ = false := by rw [h1.marks]; simp [go_sem]
      have hz : w.heap.size + 1 < w1.heap.size := by have := h1.below.size; simp at this; omega
      have g1 := ((((Q.refl w).alloc _ _).alloc _ _).trans h1)
      clear h1
      go_wp2_with fail
      refine (c2 _).mono ?_
      rintro e w3 ⟨rfl, rfl⟩
      go_wp2_with fail
      refine (c3 _).mono ?_
      rintro e w3 ⟨rfl, rfl⟩
      go_wp2_with fail
      refine (c4 _).mono ?_
      rintro e w4 ⟨rfl, h4⟩
      replace z0 := h4.keep z0
      replace z1 := h4.keep z1
      replace f0 : w4.frozen? ⟨w.heap.size + 1, 0, none⟩ = false := by rw [h4.marks]; exact f0
      replace f1 : w4.frozen? ⟨w.heap.size + 1, 1, none⟩ = false := by rw [h4.marks]; exact f1
      replace hz : w.heap.size + 1 < w4.heap.size := Nat.lt_of_lt_of_le hz h4.below.size
      replace g1 := g1.trans h4
      clear h4 a0 a1
      go_wp2
      exact bodyPost_ret (v := .tuple #[.agg #[.int .i64 X, .int .i64 Y], .int .i64 Z]) (by simp [results, Try.results14, go_sem, *]) rfl ⟨rfl, (g1.setCell (by simp) _).setCell (by simp) _⟩
    · rw [decide_eq_false n, spV_wrong, spV_wrong, spE_wrong]
      have n' : decide (by_ < 0) = true := decide_eq_true (by omega)
      clear r0 n c2 c3 c4
      go_enter Try.func14, Try.ntmps14
      go_wp2_with fail
      refine (c0 _).mono ?_
      rintro e w1 ⟨rfl, h1⟩
      have a0 := h1.keep (p := ⟨w.heap.size, 0, none⟩) (v := .int .i64 sl) (by simp [go_sem])
      have a1 := h1.keep (p := ⟨w.heap.size, 1, none⟩) (v := .int .i64 sh) (by simp [go_sem])
      have z0 := h1.keep (p := ⟨w.heap.size + 1, 0, none⟩) (v := .int .i64 0) (by simp [go_sem])
      have z1 := h1.keep (p := ⟨w.heap.size + 1, 1, none⟩) (v := .int .i64 0) (by simp [go_sem])
      have f0 : w1.frozen? ⟨w.heap.size + 1, 0, none⟩ = false := by rw [h1.marks]; simp [go_sem]
      have f1 : w1.frozen? ⟨w.heap.size + 1, 1, none⟩ = false := by rw [h1.marks]; simp [go_sem]
      have hz : w.heap.size + 1 < w1.heap.size := by have := h1.below.size; simp at this; omega
      have g1 := ((((Q.refl w).alloc _ _).alloc _ _).trans h1)
      clear h1
      go_wp2
      exact bodyPost_ret (v := .tuple #[.agg #[.int .i64 0, .int .i64 0], .int .i64 20]) (by simp [results, Try.results14, go_sem, *]) rfl ⟨rfl, (g1.setCell (by simp) _).setCell (by simp) _⟩
  · rw [decide_eq_false r0, Bool.false_and, spV_wrong, spV_wrong, spE_wrong]
    rw [decide_eq_false r0] at c0
    clear r0 c2 c3 c4
    go_enter Try.func14, Try.ntmps14
    go_wp2_with fail
    refine (c0 _).mono ?_
    rintro e w1 ⟨rfl, h1⟩
    have a0 := h1.keep (p := ⟨w.heap.size, 0, none⟩) (v := .int .i64 sl) (by simp [go_sem])
    have a1 := h1.keep (p := ⟨w.heap.size, 1, none⟩) (v := .int .i64 sh) (by simp [go_sem])
    have z0 := h1.keep (p := ⟨w.heap.size + 1, 0, none⟩) (v := .int .i64 0) (by simp [go_sem])
    have z1 := h1.keep (p := ⟨w.heap.size + 1, 1, none⟩) (v := .int .i64 0) (by simp [go_sem])
    have f0 : w1.frozen? ⟨w.heap.size + 1, 0, none⟩ = false := by rw [h1.marks]; simp [go_sem]
    have f1 : w1.frozen? ⟨w.heap.size + 1, 1, none⟩ = false := by rw [h1.marks]; simp [go_sem]
    have hz : w.heap.size + 1 < w1.heap.size := by have := h1.below.size; simp at this; omega
    have g1 := ((((Q.refl w).alloc _ _).alloc _ _).trans h1)
    clear h1
    go_wp2
    exact bodyPost_ret (v := .tuple #[.agg #[.int .i64 0, .int .i64 0], .int .i64 20]) (by simp [results, Try.results14, go_sem, *]) rfl ⟨rfl, (g1.setCell (by simp) _).setCell (by simp) _⟩
end Go.Proofs.Ytehohogpnmokjaa
