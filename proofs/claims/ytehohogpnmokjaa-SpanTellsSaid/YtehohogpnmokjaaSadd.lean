/-
  Contracts of layer 2's sums and differences.
-/
import Derived.Test.YtehohogpnmokjaaSw
import Derived.Test.YtehohogpnmokjaaQadd
namespace Go.Proofs.Ytehohogpnmokjaa
open Go.RowKit

theorem sadd_any (al ah bl bh : Int) (hal : I64 al) (hah : I64 ah) (hbl : I64 bl) (hbh : I64 bh) (w : World) :
    Calls Try.prog 9 #[.agg #[.int .i64 al, .int .i64 ah], .agg #[.int .i64 bl, .int .i64 bh]] w fun e w' => e = .returned (.tuple #[.agg #[.int .i64 (spV (decide (al ≤ ah) && decide (bl ≤ bh)) (al + bl) (ah + bh) (al + bl)), .int .i64 (spV (decide (al ≤ ah) && decide (bl ≤ bh)) (al + bl) (ah + bh) (ah + bh))], .int .i64 (spE (decide (al ≤ ah) && decide (bl ≤ bh)) (al + bl) (ah + bh))]) ∧ Q w w' := by
  have c0 := fun w => right_any al ah w
  have c1 := fun w => right_any bl bh w
  have c2 := fun w => add_any al bl hal hbl w
  have c3 := fun w => add_any ah bh hah hbh w
  clear hal hah hbl hbh
  by_cases r0 : al ≤ ah
  · rw [decide_eq_true r0, Bool.true_and]
    rw [decide_eq_true r0] at c0
    by_cases r1 : bl ≤ bh
    · rw [decide_eq_true r1]
      rw [decide_eq_true r1] at c1
      clear r0 r1
      by_cases i1 : I64 (al + bl)
      · rw [qv_yes i1, qe_yes i1] at c2
        by_cases i2 : I64 (ah + bh)
        · rw [qv_yes i2, qe_yes i2] at c3
          rw [spV_yes _ i1 i2, spV_yes _ i1 i2, spE_yes i1 i2]
          generalize al + bl = X at *
          generalize ah + bh = Y at *
          clear i1 i2
          go_enter Try.func9, Try.ntmps9
          go_wp2_with fail
          refine (c0 _).mono ?_
          rintro e w1 ⟨rfl, h1⟩
          have a0 := h1.keep (p := ⟨w.heap.size, 0, none⟩) (v := .int .i64 al) (by simp [go_sem])
          have a1 := h1.keep (p := ⟨w.heap.size, 1, none⟩) (v := .int .i64 ah) (by simp [go_sem])
          have b0 := h1.keep (p := ⟨w.heap.size + 1, 0, none⟩) (v := .int .i64 bl) (by simp [go_sem])
          have b1 := h1.keep (p := ⟨w.heap.size + 1, 1, none⟩) (v := .int .i64 bh) (by simp [go_sem])
          have z0 := h1.keep (p := ⟨w.heap.size + 1 + 1, 0, none⟩) (v := .int .i64 0) (by simp [go_sem])
          have z1 := h1.keep (p := ⟨w.heap.size + 1 + 1, 1, none⟩) (v := .int .i64 0) (by simp [go_sem])
          have f0 : w1.frozen? ⟨w.heap.size + 1 + 1, 0, none⟩ = false := by rw [h1.marks]; simp [go_sem]
          have f1 : w1.frozen? ⟨w.heap.size + 1 + 1, 1, none⟩ = false := by rw [h1.marks]; simp [go_sem]
          have hz : w.heap.size + 1 + 1 < w1.heap.size := by have := h1.below.size; simp at this; omega
          have g1 := (((((Q.refl w).alloc _ _).alloc _ _).alloc _ _).trans h1)
          clear h1
          go_wp2_with fail
          refine (c1 _).mono ?_
          rintro e w2 ⟨rfl, h2⟩
          replace a0 := h2.keep a0
          replace a1 := h2.keep a1
          replace b0 := h2.keep b0
          replace b1 := h2.keep b1
          replace z0 := h2.keep z0
          replace z1 := h2.keep z1
          replace f0 : w2.frozen? ⟨w.heap.size + 1 + 1, 0, none⟩ = false := by rw [h2.marks]; exact f0
          replace f1 : w2.frozen? ⟨w.heap.size + 1 + 1, 1, none⟩ = false := by rw [h2.marks]; exact f1
          replace hz : w.heap.size + 1 + 1 < w2.heap.size := Nat.lt_of_lt_of_le hz h2.below.size
          replace g1 := g1.trans h2
          clear h2
          go_wp2_with fail
          refine (c2 _).mono ?_
          rintro e w3 ⟨rfl, rfl⟩
          go_wp2_with fail
          refine (c3 _).mono ?_
          rintro e w3 ⟨rfl, rfl⟩
          go_wp2
          exact bodyPost_ret (v := .tuple #[.agg #[.int .i64 X, .int .i64 Y], .int .i64 0]) (by simp [results, Try.results9, go_sem, *]) rfl ⟨rfl, (g1.setCell (by simp; omega) _).setCell (by simp; omega) _⟩
        · rw [qv_no i2, qe_no i2] at c3
          have n := fun x : I64 (al + bl) ∧ I64 (ah + bh) => i2 x.2
          rw [spV_no _ n, spV_no _ n, spE_no n]
          generalize al + bl = X at *
          clear i1 i2 n
          go_enter Try.func9, Try.ntmps9
          go_wp2_with fail
          refine (c0 _).mono ?_
          rintro e w1 ⟨rfl, h1⟩
          have a0 := h1.keep (p := ⟨w.heap.size, 0, none⟩) (v := .int .i64 al) (by simp [go_sem])
          have a1 := h1.keep (p := ⟨w.heap.size, 1, none⟩) (v := .int .i64 ah) (by simp [go_sem])
          have b0 := h1.keep (p := ⟨w.heap.size + 1, 0, none⟩) (v := .int .i64 bl) (by simp [go_sem])
          have b1 := h1.keep (p := ⟨w.heap.size + 1, 1, none⟩) (v := .int .i64 bh) (by simp [go_sem])
          have z0 := h1.keep (p := ⟨w.heap.size + 1 + 1, 0, none⟩) (v := .int .i64 0) (by simp [go_sem])
          have z1 := h1.keep (p := ⟨w.heap.size + 1 + 1, 1, none⟩) (v := .int .i64 0) (by simp [go_sem])
          have f0 : w1.frozen? ⟨w.heap.size + 1 + 1, 0, none⟩ = false := by rw [h1.marks]; simp [go_sem]
          have f1 : w1.frozen? ⟨w.heap.size + 1 + 1, 1, none⟩ = false := by rw [h1.marks]; simp [go_sem]
          have hz : w.heap.size + 1 + 1 < w1.heap.size := by have := h1.below.size; simp at this; omega
          have g1 := (((((Q.refl w).alloc _ _).alloc _ _).alloc _ _).trans h1)
          clear h1
          go_wp2_with fail
          refine (c1 _).mono ?_
          rintro e w2 ⟨rfl, h2⟩
          replace a0 := h2.keep a0
          replace a1 := h2.keep a1
          replace b0 := h2.keep b0
          replace b1 := h2.keep b1
          replace z0 := h2.keep z0
          replace z1 := h2.keep z1
          replace f0 : w2.frozen? ⟨w.heap.size + 1 + 1, 0, none⟩ = false := by rw [h2.marks]; exact f0
          replace f1 : w2.frozen? ⟨w.heap.size + 1 + 1, 1, none⟩ = false := by rw [h2.marks]; exact f1
          replace hz : w.heap.size + 1 + 1 < w2.heap.size := Nat.lt_of_lt_of_le hz h2.below.size
          replace g1 := g1.trans h2
          clear h2
          go_wp2_with fail
          refine (c2 _).mono ?_
          rintro e w3 ⟨rfl, rfl⟩
          go_wp2_with fail
          refine (c3 _).mono ?_
          rintro e w3 ⟨rfl, rfl⟩
          go_wp2
          exact bodyPost_ret (v := .tuple #[.agg #[.int .i64 0, .int .i64 0], .int .i64 21]) (by simp [results, Try.results9, go_sem, *]) rfl ⟨rfl, (g1.setCell (by simp; omega) _).setCell (by simp; omega) _⟩
      · rw [qv_no i1, qe_no i1] at c2
        have n := fun x : I64 (al + bl) ∧ I64 (ah + bh) => i1 x.1
        rw [spV_no _ n, spV_no _ n, spE_no n]
        clear i1 n c3
        go_enter Try.func9, Try.ntmps9
        go_wp2_with fail
        refine (c0 _).mono ?_
        rintro e w1 ⟨rfl, h1⟩
        have a0 := h1.keep (p := ⟨w.heap.size, 0, none⟩) (v := .int .i64 al) (by simp [go_sem])
        have a1 := h1.keep (p := ⟨w.heap.size, 1, none⟩) (v := .int .i64 ah) (by simp [go_sem])
        have b0 := h1.keep (p := ⟨w.heap.size + 1, 0, none⟩) (v := .int .i64 bl) (by simp [go_sem])
        have b1 := h1.keep (p := ⟨w.heap.size + 1, 1, none⟩) (v := .int .i64 bh) (by simp [go_sem])
        have z0 := h1.keep (p := ⟨w.heap.size + 1 + 1, 0, none⟩) (v := .int .i64 0) (by simp [go_sem])
        have z1 := h1.keep (p := ⟨w.heap.size + 1 + 1, 1, none⟩) (v := .int .i64 0) (by simp [go_sem])
        have f0 : w1.frozen? ⟨w.heap.size + 1 + 1, 0, none⟩ = false := by rw [h1.marks]; simp [go_sem]
        have f1 : w1.frozen? ⟨w.heap.size + 1 + 1, 1, none⟩ = false := by rw [h1.marks]; simp [go_sem]
        have hz : w.heap.size + 1 + 1 < w1.heap.size := by have := h1.below.size; simp at this; omega
        have g1 := (((((Q.refl w).alloc _ _).alloc _ _).alloc _ _).trans h1)
        clear h1
        go_wp2_with fail
        refine (c1 _).mono ?_
        rintro e w2 ⟨rfl, h2⟩
        replace a0 := h2.keep a0
        replace a1 := h2.keep a1
        replace b0 := h2.keep b0
        replace b1 := h2.keep b1
        replace z0 := h2.keep z0
        replace z1 := h2.keep z1
        replace f0 : w2.frozen? ⟨w.heap.size + 1 + 1, 0, none⟩ = false := by rw [h2.marks]; exact f0
        replace f1 : w2.frozen? ⟨w.heap.size + 1 + 1, 1, none⟩ = false := by rw [h2.marks]; exact f1
        replace hz : w.heap.size + 1 + 1 < w2.heap.size := Nat.lt_of_lt_of_le hz h2.below.size
        replace g1 := g1.trans h2
        clear h2
        go_wp2_with fail
        refine (c2 _).mono ?_
        rintro e w3 ⟨rfl, rfl⟩
        go_wp2
        exact bodyPost_ret (v := .tuple #[.agg #[.int .i64 0, .int .i64 0], .int .i64 21]) (by simp [results, Try.results9, go_sem, *]) rfl ⟨rfl, (g1.setCell (by simp; omega) _).setCell (by simp; omega) _⟩
    · rw [decide_eq_false r1, spV_wrong, spV_wrong, spE_wrong]
      rw [decide_eq_false r1] at c1
      clear r0 r1 c2 c3
      go_enter Try.func9, Try.ntmps9
      go_wp2_with fail
      refine (c0 _).mono ?_
      rintro e w1 ⟨rfl, h1⟩
      have a0 := h1.keep (p := ⟨w.heap.size, 0, none⟩) (v := .int .i64 al) (by simp [go_sem])
      have a1 := h1.keep (p := ⟨w.heap.size, 1, none⟩) (v := .int .i64 ah) (by simp [go_sem])
      have b0 := h1.keep (p := ⟨w.heap.size + 1, 0, none⟩) (v := .int .i64 bl) (by simp [go_sem])
      have b1 := h1.keep (p := ⟨w.heap.size + 1, 1, none⟩) (v := .int .i64 bh) (by simp [go_sem])
      have z0 := h1.keep (p := ⟨w.heap.size + 1 + 1, 0, none⟩) (v := .int .i64 0) (by simp [go_sem])
      have z1 := h1.keep (p := ⟨w.heap.size + 1 + 1, 1, none⟩) (v := .int .i64 0) (by simp [go_sem])
      have f0 : w1.frozen? ⟨w.heap.size + 1 + 1, 0, none⟩ = false := by rw [h1.marks]; simp [go_sem]
      have f1 : w1.frozen? ⟨w.heap.size + 1 + 1, 1, none⟩ = false := by rw [h1.marks]; simp [go_sem]
      have hz : w.heap.size + 1 + 1 < w1.heap.size := by have := h1.below.size; simp at this; omega
      have g1 := (((((Q.refl w).alloc _ _).alloc _ _).alloc _ _).trans h1)
      clear h1
      go_wp2_with fail
      refine (c1 _).mono ?_
      rintro e w2 ⟨rfl, h2⟩
      replace a0 := h2.keep a0
      replace a1 := h2.keep a1
      replace b0 := h2.keep b0
      replace b1 := h2.keep b1
      replace z0 := h2.keep z0
      replace z1 := h2.keep z1
      replace f0 : w2.frozen? ⟨w.heap.size + 1 + 1, 0, none⟩ = false := by rw [h2.marks]; exact f0
      replace f1 : w2.frozen? ⟨w.heap.size + 1 + 1, 1, none⟩ = false := by rw [h2.marks]; exact f1
      replace hz : w.heap.size + 1 + 1 < w2.heap.size := Nat.lt_of_lt_of_le hz h2.below.size
      replace g1 := g1.trans h2
      clear h2
      go_wp2
      exact bodyPost_ret (v := .tuple #[.agg #[.int .i64 0, .int .i64 0], .int .i64 20]) (by simp [results, Try.results9, go_sem, *]) rfl ⟨rfl, (g1.setCell (by simp; omega) _).setCell (by simp; omega) _⟩
  · rw [decide_eq_false r0, Bool.false_and, spV_wrong, spV_wrong, spE_wrong]
    rw [decide_eq_false r0] at c0
    clear r0 c1 c2 c3
    go_enter Try.func9, Try.ntmps9
    go_wp2_with fail
    refine (c0 _).mono ?_
    rintro e w1 ⟨rfl, h1⟩
    have a0 := h1.keep (p := ⟨w.heap.size, 0, none⟩) (v := .int .i64 al) (by simp [go_sem])
    have a1 := h1.keep (p := ⟨w.heap.size, 1, none⟩) (v := .int .i64 ah) (by simp [go_sem])
    have b0 := h1.keep (p := ⟨w.heap.size + 1, 0, none⟩) (v := .int .i64 bl) (by simp [go_sem])
    have b1 := h1.keep (p := ⟨w.heap.size + 1, 1, none⟩) (v := .int .i64 bh) (by simp [go_sem])
    have z0 := h1.keep (p := ⟨w.heap.size + 1 + 1, 0, none⟩) (v := .int .i64 0) (by simp [go_sem])
    have z1 := h1.keep (p := ⟨w.heap.size + 1 + 1, 1, none⟩) (v := .int .i64 0) (by simp [go_sem])
    have f0 : w1.frozen? ⟨w.heap.size + 1 + 1, 0, none⟩ = false := by rw [h1.marks]; simp [go_sem]
    have f1 : w1.frozen? ⟨w.heap.size + 1 + 1, 1, none⟩ = false := by rw [h1.marks]; simp [go_sem]
    have hz : w.heap.size + 1 + 1 < w1.heap.size := by have := h1.below.size; simp at this; omega
    have g1 := (((((Q.refl w).alloc _ _).alloc _ _).alloc _ _).trans h1)
    clear h1
    go_wp2
    exact bodyPost_ret (v := .tuple #[.agg #[.int .i64 0, .int .i64 0], .int .i64 20]) (by simp [results, Try.results9, go_sem, *]) rfl ⟨rfl, (g1.setCell (by simp; omega) _).setCell (by simp; omega) _⟩

theorem ssub_any (al ah bl bh : Int) (hal : I64 al) (hah : I64 ah) (hbl : I64 bl) (hbh : I64 bh) (w : World) :
    Calls Try.prog 11 #[.agg #[.int .i64 al, .int .i64 ah], .agg #[.int .i64 bl, .int .i64 bh]] w fun e w' => e = .returned (.tuple #[.agg #[.int .i64 (spV (decide (al ≤ ah) && decide (bl ≤ bh)) (al - bh) (ah - bl) (al - bh)), .int .i64 (spV (decide (al ≤ ah) && decide (bl ≤ bh)) (al - bh) (ah - bl) (ah - bl))], .int .i64 (spE (decide (al ≤ ah) && decide (bl ≤ bh)) (al - bh) (ah - bl))]) ∧ Q w w' := by
  have c0 := fun w => right_any al ah w
  have c1 := fun w => right_any bl bh w
  have c2 := fun w => sub_any al bh hal hbh w
  have c3 := fun w => sub_any ah bl hah hbl w
  clear hal hah hbl hbh
  by_cases r0 : al ≤ ah
  · rw [decide_eq_true r0, Bool.true_and]
    rw [decide_eq_true r0] at c0
    by_cases r1 : bl ≤ bh
    · rw [decide_eq_true r1]
      rw [decide_eq_true r1] at c1
      clear r0 r1
      by_cases i1 : I64 (al - bh)
      · rw [qv_yes i1, qe_yes i1] at c2
        by_cases i2 : I64 (ah - bl)
        · rw [qv_yes i2, qe_yes i2] at c3
          rw [spV_yes _ i1 i2, spV_yes _ i1 i2, spE_yes i1 i2]
          generalize al - bh = X at *
          generalize ah - bl = Y at *
          clear i1 i2
          go_enter Try.func11, Try.ntmps11
          go_wp2_with fail
          refine (c0 _).mono ?_
          rintro e w1 ⟨rfl, h1⟩
          have a0 := h1.keep (p := ⟨w.heap.size, 0, none⟩) (v := .int .i64 al) (by simp [go_sem])
          have a1 := h1.keep (p := ⟨w.heap.size, 1, none⟩) (v := .int .i64 ah) (by simp [go_sem])
          have b0 := h1.keep (p := ⟨w.heap.size + 1, 0, none⟩) (v := .int .i64 bl) (by simp [go_sem])
          have b1 := h1.keep (p := ⟨w.heap.size + 1, 1, none⟩) (v := .int .i64 bh) (by simp [go_sem])
          have z0 := h1.keep (p := ⟨w.heap.size + 1 + 1, 0, none⟩) (v := .int .i64 0) (by simp [go_sem])
          have z1 := h1.keep (p := ⟨w.heap.size + 1 + 1, 1, none⟩) (v := .int .i64 0) (by simp [go_sem])
          have f0 : w1.frozen? ⟨w.heap.size + 1 + 1, 0, none⟩ = false := by rw [h1.marks]; simp [go_sem]
          have f1 : w1.frozen? ⟨w.heap.size + 1 + 1, 1, none⟩ = false := by rw [h1.marks]; simp [go_sem]
          have hz : w.heap.size + 1 + 1 < w1.heap.size := by have := h1.below.size; simp at this; omega
          have g1 := (((((Q.refl w).alloc _ _).alloc _ _).alloc _ _).trans h1)
          clear h1
          go_wp2_with fail
          refine (c1 _).mono ?_
          rintro e w2 ⟨rfl, h2⟩
          replace a0 := h2.keep a0
          replace a1 := h2.keep a1
          replace b0 := h2.keep b0
          replace b1 := h2.keep b1
          replace z0 := h2.keep z0
          replace z1 := h2.keep z1
          replace f0 : w2.frozen? ⟨w.heap.size + 1 + 1, 0, none⟩ = false := by rw [h2.marks]; exact f0
          replace f1 : w2.frozen? ⟨w.heap.size + 1 + 1, 1, none⟩ = false := by rw [h2.marks]; exact f1
          replace hz : w.heap.size + 1 + 1 < w2.heap.size := Nat.lt_of_lt_of_le hz h2.below.size
          replace g1 := g1.trans h2
          clear h2
          go_wp2_with fail
          refine (c2 _).mono ?_
          rintro e w3 ⟨rfl, rfl⟩
          go_wp2_with fail
          refine (c3 _).mono ?_
          rintro e w3 ⟨rfl, rfl⟩
          go_wp2
          exact bodyPost_ret (v := .tuple #[.agg #[.int .i64 X, .int .i64 Y], .int .i64 0]) (by simp [results, Try.results11, go_sem, *]) rfl ⟨rfl, (g1.setCell (by simp; omega) _).setCell (by simp; omega) _⟩
        · rw [qv_no i2, qe_no i2] at c3
          have n := fun x : I64 (al - bh) ∧ I64 (ah - bl) => i2 x.2
          rw [spV_no _ n, spV_no _ n, spE_no n]
          generalize al - bh = X at *
          clear i1 i2 n
          go_enter Try.func11, Try.ntmps11
          go_wp2_with fail
          refine (c0 _).mono ?_
          rintro e w1 ⟨rfl, h1⟩
          have a0 := h1.keep (p := ⟨w.heap.size, 0, none⟩) (v := .int .i64 al) (by simp [go_sem])
          have a1 := h1.keep (p := ⟨w.heap.size, 1, none⟩) (v := .int .i64 ah) (by simp [go_sem])
          have b0 := h1.keep (p := ⟨w.heap.size + 1, 0, none⟩) (v := .int .i64 bl) (by simp [go_sem])
          have b1 := h1.keep (p := ⟨w.heap.size + 1, 1, none⟩) (v := .int .i64 bh) (by simp [go_sem])
          have z0 := h1.keep (p := ⟨w.heap.size + 1 + 1, 0, none⟩) (v := .int .i64 0) (by simp [go_sem])
          have z1 := h1.keep (p := ⟨w.heap.size + 1 + 1, 1, none⟩) (v := .int .i64 0) (by simp [go_sem])
          have f0 : w1.frozen? ⟨w.heap.size + 1 + 1, 0, none⟩ = false := by rw [h1.marks]; simp [go_sem]
          have f1 : w1.frozen? ⟨w.heap.size + 1 + 1, 1, none⟩ = false := by rw [h1.marks]; simp [go_sem]
          have hz : w.heap.size + 1 + 1 < w1.heap.size := by have := h1.below.size; simp at this; omega
          have g1 := (((((Q.refl w).alloc _ _).alloc _ _).alloc _ _).trans h1)
          clear h1
          go_wp2_with fail
          refine (c1 _).mono ?_
          rintro e w2 ⟨rfl, h2⟩
          replace a0 := h2.keep a0
          replace a1 := h2.keep a1
          replace b0 := h2.keep b0
          replace b1 := h2.keep b1
          replace z0 := h2.keep z0
          replace z1 := h2.keep z1
          replace f0 : w2.frozen? ⟨w.heap.size + 1 + 1, 0, none⟩ = false := by rw [h2.marks]; exact f0
          replace f1 : w2.frozen? ⟨w.heap.size + 1 + 1, 1, none⟩ = false := by rw [h2.marks]; exact f1
          replace hz : w.heap.size + 1 + 1 < w2.heap.size := Nat.lt_of_lt_of_le hz h2.below.size
          replace g1 := g1.trans h2
          clear h2
          go_wp2_with fail
          refine (c2 _).mono ?_
          rintro e w3 ⟨rfl, rfl⟩
          go_wp2_with fail
          refine (c3 _).mono ?_
          rintro e w3 ⟨rfl, rfl⟩
          go_wp2
          exact bodyPost_ret (v := .tuple #[.agg #[.int .i64 0, .int .i64 0], .int .i64 21]) (by simp [results, Try.results11, go_sem, *]) rfl ⟨rfl, (g1.setCell (by simp; omega) _).setCell (by simp; omega) _⟩
      · rw [qv_no i1, qe_no i1] at c2
        have n := fun x : I64 (al - bh) ∧ I64 (ah - bl) => i1 x.1
        rw [spV_no _ n, spV_no _ n, spE_no n]
        clear i1 n c3
        go_enter Try.func11, Try.ntmps11
        go_wp2_with fail
        refine (c0 _).mono ?_
        rintro e w1 ⟨rfl, h1⟩
        have a0 := h1.keep (p := ⟨w.heap.size, 0, none⟩) (v := .int .i64 al) (by simp [go_sem])
        have a1 := h1.keep (p := ⟨w.heap.size, 1, none⟩) (v := .int .i64 ah) (by simp [go_sem])
        have b0 := h1.keep (p := ⟨w.heap.size + 1, 0, none⟩) (v := .int .i64 bl) (by simp [go_sem])
        have b1 := h1.keep (p := ⟨w.heap.size + 1, 1, none⟩) (v := .int .i64 bh) (by simp [go_sem])
        have z0 := h1.keep (p := ⟨w.heap.size + 1 + 1, 0, none⟩) (v := .int .i64 0) (by simp [go_sem])
        have z1 := h1.keep (p := ⟨w.heap.size + 1 + 1, 1, none⟩) (v := .int .i64 0) (by simp [go_sem])
        have f0 : w1.frozen? ⟨w.heap.size + 1 + 1, 0, none⟩ = false := by rw [h1.marks]; simp [go_sem]
        have f1 : w1.frozen? ⟨w.heap.size + 1 + 1, 1, none⟩ = false := by rw [h1.marks]; simp [go_sem]
        have hz : w.heap.size + 1 + 1 < w1.heap.size := by have := h1.below.size; simp at this; omega
        have g1 := (((((Q.refl w).alloc _ _).alloc _ _).alloc _ _).trans h1)
        clear h1
        go_wp2_with fail
        refine (c1 _).mono ?_
        rintro e w2 ⟨rfl, h2⟩
        replace a0 := h2.keep a0
        replace a1 := h2.keep a1
        replace b0 := h2.keep b0
        replace b1 := h2.keep b1
        replace z0 := h2.keep z0
        replace z1 := h2.keep z1
        replace f0 : w2.frozen? ⟨w.heap.size + 1 + 1, 0, none⟩ = false := by rw [h2.marks]; exact f0
        replace f1 : w2.frozen? ⟨w.heap.size + 1 + 1, 1, none⟩ = false := by rw [h2.marks]; exact f1
        replace hz : w.heap.size + 1 + 1 < w2.heap.size := Nat.lt_of_lt_of_le hz h2.below.size
        replace g1 := g1.trans h2
        clear h2
        go_wp2_with fail
        refine (c2 _).mono ?_
        rintro e w3 ⟨rfl, rfl⟩
        go_wp2
        exact bodyPost_ret (v := .tuple #[.agg #[.int .i64 0, .int .i64 0], .int .i64 21]) (by simp [results, Try.results11, go_sem, *]) rfl ⟨rfl, (g1.setCell (by simp; omega) _).setCell (by simp; omega) _⟩
    · rw [decide_eq_false r1, spV_wrong, spV_wrong, spE_wrong]
      rw [decide_eq_false r1] at c1
      clear r0 r1 c2 c3
      go_enter Try.func11, Try.ntmps11
      go_wp2_with fail
      refine (c0 _).mono ?_
      rintro e w1 ⟨rfl, h1⟩
      have a0 := h1.keep (p := ⟨w.heap.size, 0, none⟩) (v := .int .i64 al) (by simp [go_sem])
      have a1 := h1.keep (p := ⟨w.heap.size, 1, none⟩) (v := .int .i64 ah) (by simp [go_sem])
      have b0 := h1.keep (p := ⟨w.heap.size + 1, 0, none⟩) (v := .int .i64 bl) (by simp [go_sem])
      have b1 := h1.keep (p := ⟨w.heap.size + 1, 1, none⟩) (v := .int .i64 bh) (by simp [go_sem])
      have z0 := h1.keep (p := ⟨w.heap.size + 1 + 1, 0, none⟩) (v := .int .i64 0) (by simp [go_sem])
      have z1 := h1.keep (p := ⟨w.heap.size + 1 + 1, 1, none⟩) (v := .int .i64 0) (by simp [go_sem])
      have f0 : w1.frozen? ⟨w.heap.size + 1 + 1, 0, none⟩ = false := by rw [h1.marks]; simp [go_sem]
      have f1 : w1.frozen? ⟨w.heap.size + 1 + 1, 1, none⟩ = false := by rw [h1.marks]; simp [go_sem]
      have hz : w.heap.size + 1 + 1 < w1.heap.size := by have := h1.below.size; simp at this; omega
      have g1 := (((((Q.refl w).alloc _ _).alloc _ _).alloc _ _).trans h1)
      clear h1
      go_wp2_with fail
      refine (c1 _).mono ?_
      rintro e w2 ⟨rfl, h2⟩
      replace a0 := h2.keep a0
      replace a1 := h2.keep a1
      replace b0 := h2.keep b0
      replace b1 := h2.keep b1
      replace z0 := h2.keep z0
      replace z1 := h2.keep z1
      replace f0 : w2.frozen? ⟨w.heap.size + 1 + 1, 0, none⟩ = false := by rw [h2.marks]; exact f0
      replace f1 : w2.frozen? ⟨w.heap.size + 1 + 1, 1, none⟩ = false := by rw [h2.marks]; exact f1
      replace hz : w.heap.size + 1 + 1 < w2.heap.size := Nat.lt_of_lt_of_le hz h2.below.size
      replace g1 := g1.trans h2
      clear h2
      go_wp2
      exact bodyPost_ret (v := .tuple #[.agg #[.int .i64 0, .int .i64 0], .int .i64 20]) (by simp [results, Try.results11, go_sem, *]) rfl ⟨rfl, (g1.setCell (by simp; omega) _).setCell (by simp; omega) _⟩
  · rw [decide_eq_false r0, Bool.false_and, spV_wrong, spV_wrong, spE_wrong]
    rw [decide_eq_false r0] at c0
    clear r0 c1 c2 c3
    go_enter Try.func11, Try.ntmps11
    go_wp2_with fail
    refine (c0 _).mono ?_
    rintro e w1 ⟨rfl, h1⟩
    have a0 := h1.keep (p := ⟨w.heap.size, 0, none⟩) (v := .int .i64 al) (by simp [go_sem])
    have a1 := h1.keep (p := ⟨w.heap.size, 1, none⟩) (v := .int .i64 ah) (by simp [go_sem])
    have b0 := h1.keep (p := ⟨w.heap.size + 1, 0, none⟩) (v := .int .i64 bl) (by simp [go_sem])
    have b1 := h1.keep (p := ⟨w.heap.size + 1, 1, none⟩) (v := .int .i64 bh) (by simp [go_sem])
    have z0 := h1.keep (p := ⟨w.heap.size + 1 + 1, 0, none⟩) (v := .int .i64 0) (by simp [go_sem])
    have z1 := h1.keep (p := ⟨w.heap.size + 1 + 1, 1, none⟩) (v := .int .i64 0) (by simp [go_sem])
    have f0 : w1.frozen? ⟨w.heap.size + 1 + 1, 0, none⟩ = false := by rw [h1.marks]; simp [go_sem]
    have f1 : w1.frozen? ⟨w.heap.size + 1 + 1, 1, none⟩ = false := by rw [h1.marks]; simp [go_sem]
    have hz : w.heap.size + 1 + 1 < w1.heap.size := by have := h1.below.size; simp at this; omega
    have g1 := (((((Q.refl w).alloc _ _).alloc _ _).alloc _ _).trans h1)
    clear h1
    go_wp2
    exact bodyPost_ret (v := .tuple #[.agg #[.int .i64 0, .int .i64 0], .int .i64 20]) (by simp [results, Try.results11, go_sem, *]) rfl ⟨rfl, (g1.setCell (by simp; omega) _).setCell (by simp; omega) _⟩

theorem swide_any (sl sh by_ : Int) (hsl : I64 sl) (hsh : I64 sh) (hby : I64 by_) (w : World) :
    Calls Try.prog 13 #[.agg #[.int .i64 sl, .int .i64 sh], .int .i64 by_] w fun e w' => e = .returned (.tuple #[.agg #[.int .i64 (spV (decide (sl ≤ sh) && decide (0 ≤ by_)) (sl - by_) (sh + by_) (sl - by_)), .int .i64 (spV (decide (sl ≤ sh) && decide (0 ≤ by_)) (sl - by_) (sh + by_) (sh + by_))], .int .i64 (spE (decide (sl ≤ sh) && decide (0 ≤ by_)) (sl - by_) (sh + by_))]) ∧ Q w w' := by
  by_cases n : by_ < 0
  · rw [decide_eq_false (show ¬ 0 ≤ by_ by omega), Bool.and_false, spV_wrong, spV_wrong, spE_wrong]
    clear hsl hsh hby
    go_enter Try.func13, Try.ntmps13
    go_wp2
    exact bodyPost_ret (v := .tuple #[.agg #[.int .i64 0, .int .i64 0], .int .i64 20]) (by simp [results, Try.results13, go_sem]) rfl ⟨rfl, ((Q.refl w).alloc _ _).alloc _ _⟩
  · have hn : I64 (-by_) := by unfold I64 at *; omega
    have c := fun w => sadd_any sl sh (-by_) by_ hsl hsh hn hby w
    rw [decide_eq_true (show -by_ ≤ by_ by omega), show sl + -by_ = sl - by_ by omega] at c
    rw [decide_eq_true (show 0 ≤ by_ by omega)]
    generalize spV (decide (sl ≤ sh) && true) (sl - by_) (sh + by_) (sl - by_) = X at *
    generalize spV (decide (sl ≤ sh) && true) (sl - by_) (sh + by_) (sh + by_) = Y at *
    generalize spE (decide (sl ≤ sh) && true) (sl - by_) (sh + by_) = Z at *
    obtain ⟨m1, m2⟩ := hn
    clear hsl hsh hby
    go_enter Try.func13, Try.ntmps13
    go_wp2_with fail
    refine (c _).mono ?_
    rintro e w1 ⟨rfl, h1⟩
    have z0 := h1.keep (p := ⟨w.heap.size + 1, 0, none⟩) (v := .int .i64 0) (by simp [go_sem])
    have z1 := h1.keep (p := ⟨w.heap.size + 1, 1, none⟩) (v := .int .i64 0) (by simp [go_sem])
    have f0 : w1.frozen? ⟨w.heap.size + 1, 0, none⟩ = false := by rw [h1.marks]; simp [go_sem]
    have f1 : w1.frozen? ⟨w.heap.size + 1, 1, none⟩ = false := by rw [h1.marks]; simp [go_sem]
    have g1 := ((((Q.refl w).alloc _ _).alloc _ _).trans h1)
    clear h1
    go_wp2
    exact bodyPost_ret (v := .tuple #[.agg #[.int .i64 X, .int .i64 Y], .int .i64 Z]) (by simp [results, Try.results13, go_sem, *]) rfl ⟨rfl, (g1.setCell (by simp) _).setCell (by simp) _⟩
end Go.Proofs.Ytehohogpnmokjaa
