/-
  Layer 2: the walk of SpanJoins.
-/
import Derived.Test.YtehohogpnmokjaaL2joinsA
import Derived.Test.YtehohogpnmokjaaL2joinsB
namespace Go.Proofs.Ytehohogpnmokjaa
open Go.RowKit

theorem joins_law (al ah bl bh v : Int) (hal : (Lit.int .i64 al).wf = true) (hah : (Lit.int .i64 ah).wf = true) (hbl : (Lit.int .i64 bl).wf = true) (hbh : (Lit.int .i64 bh).wf = true) (_hv : (Lit.int .i64 v).wf = true) (w : World) :
    Calls Try.prog 7 #[.agg #[.int .i64 al, .int .i64 ah], .agg #[.int .i64 bl, .int .i64 bh], .int .i64 v] w fun e w' => e = .returned (.bool true) ∧ Q w w' := by
  replace hal := i64_wf hal
  replace hah := i64_wf hah
  replace hbl := i64_wf hbl
  replace hbh := i64_wf hbh
  clear _hv
  have c0 := fun w => right_any al ah w
  have c1 := fun w => right_any bl bh w
  by_cases r0 : al ≤ ah
  · rw [decide_eq_true r0] at c0
    by_cases r1 : bl ≤ bh
    · rw [decide_eq_true r1] at c1
      have c2 := fun w => join_any al ah bl bh w
      have c3 := fun w => least_any al ah v w
      have c9 := fun w => join_any bl bh al ah w
      rw [Int.min_comm bl al, Int.max_comm bh ah] at c9
      have ja := Int.min_le_left al bl
      have jb := Int.min_le_right al bl
      have jc := Int.le_max_left ah bh
      have jd := Int.le_max_right ah bh
      have je : min al bl = al ∨ min al bl = bl := by omega
      have jf : max ah bh = ah ∨ max ah bh = bh := by omega
      have la := Int.le_max_left al v
      have lb := Int.le_max_right al v
      have lc : max al v ≤ max ah v := by omega
      have ld : max ah v = ah ∨ max ah v = v := by omega
      have ij : I64 (min al bl) := by rcases je with e | e <;> rw [e] <;> assumption
      have ik : I64 (max ah bh) := by rcases jf with e | e <;> rw [e] <;> assumption
      generalize min al bl = jl at *
      generalize max ah bh = jh at *
      generalize max al v = ll at *
      generalize max ah v = lh at *
      have c4 := fun w => right_any jl jh w
      have c5 := fun w => has_any jl jh al ij ik hal w
      have c6 := fun w => has_any jl jh ah ij ik hah w
      have c7 := fun w => has_any jl jh bl ij ik hbl w
      have c8 := fun w => has_any jl jh bh ij ik hbh w
      have ca := fun w => right_any ll lh w
      rw [show decide (jl ≤ jh) = true by simp; omega] at c4
      rw [show (decide (jl ≤ al) && decide (al ≤ jh)) = true by simp; omega] at c5
      rw [show (decide (jl ≤ ah) && decide (ah ≤ jh)) = true by simp; omega] at c6
      rw [show (decide (jl ≤ bl) && decide (bl ≤ jh)) = true by simp; omega] at c7
      rw [show (decide (jl ≤ bh) && decide (bh ≤ jh)) = true by simp; omega] at c8
      rw [show decide (ll ≤ lh) = true by simp; omega] at ca
      clear hal hah hbl hbh ij ik
      have o1 : (jl == al) = true ∨ ((jl == al) = false ∧ (jl == bl) = true) := by simp; omega
      have o2 : (jh == ah) = true ∨ ((jh == ah) = false ∧ (jh == bh) = true) := by simp; omega
      have o3 : (lh == ah) = true ∨ ((lh == ah) = false ∧ (lh == v) = true) := by simp; omega
      clear je jf ld r0 r1 jc jd ja jb lc
      rcases o1 with o1 | ⟨o1, p1⟩ <;> rcases o2 with o2 | ⟨o2, p2⟩ <;> rcases o3 with o3 | ⟨o3, p3⟩
      · exact joins_0 al ah bl bh v jl jh ll lh c0 c1 c2 c3 c4 c5 c6 c7 c8 c9 ca la lb o1 o2 o3 w
      · exact joins_1 al ah bl bh v jl jh ll lh c0 c1 c2 c3 c4 c5 c6 c7 c8 c9 ca la lb o1 o2 o3 p3 w
      · exact joins_2 al ah bl bh v jl jh ll lh c0 c1 c2 c3 c4 c5 c6 c7 c8 c9 ca la lb o1 o2 p2 o3 w
      · exact joins_3 al ah bl bh v jl jh ll lh c0 c1 c2 c3 c4 c5 c6 c7 c8 c9 ca la lb o1 o2 p2 o3 p3 w
      · exact joins_4 al ah bl bh v jl jh ll lh c0 c1 c2 c3 c4 c5 c6 c7 c8 c9 ca la lb o1 p1 o2 o3 w
      · exact joins_5 al ah bl bh v jl jh ll lh c0 c1 c2 c3 c4 c5 c6 c7 c8 c9 ca la lb o1 p1 o2 o3 p3 w
      · exact joins_6 al ah bl bh v jl jh ll lh c0 c1 c2 c3 c4 c5 c6 c7 c8 c9 ca la lb o1 p1 o2 p2 o3 w
      · exact joins_7 al ah bl bh v jl jh ll lh c0 c1 c2 c3 c4 c5 c6 c7 c8 c9 ca la lb o1 p1 o2 p2 o3 p3 w
    · rw [decide_eq_false r1] at c1
      clear hal hah hbl hbh r0 r1
      go_enter Try.func7, Try.ntmps7
      go_wp2_with fail
      refine (known2_any _).mono ?_
      rintro e w1 ⟨rfl, h⟩
      have a0 := h.keep (p := ⟨w.heap.size, 0, none⟩) (v := .int .i64 al) (by simp [go_sem])
      have a1 := h.keep (p := ⟨w.heap.size, 1, none⟩) (v := .int .i64 ah) (by simp [go_sem])
      have b0 := h.keep (p := ⟨w.heap.size + 1, 0, none⟩) (v := .int .i64 bl) (by simp [go_sem])
      have b1 := h.keep (p := ⟨w.heap.size + 1, 1, none⟩) (v := .int .i64 bh) (by simp [go_sem])
      replace h : Q w w1 := by first | exact h | exact ((Q.refl w).alloc _ _).trans h | exact (((Q.refl w).alloc _ _).alloc _ _).trans h | exact ((((Q.refl w).alloc _ _).alloc _ _).alloc _ _).trans h | exact (((((Q.refl w).alloc _ _).alloc _ _).alloc _ _).alloc _ _).trans h
      have az : w.heap.size < w1.heap.size := World.block_lt_of_cell? _ _ a0
      have bz : w.heap.size + 1 < w1.heap.size := World.block_lt_of_cell? _ _ b0
      have g := h
      clear h
      go_wp2_with fail
      refine (c0 _).mono ?_
      rintro e w2 ⟨rfl, h⟩
      replace h : Q w1 w2 := by first | exact h | exact ((Q.refl w1).alloc _ _).trans h | exact (((Q.refl w1).alloc _ _).alloc _ _).trans h | exact ((((Q.refl w1).alloc _ _).alloc _ _).alloc _ _).trans h | exact (((((Q.refl w1).alloc _ _).alloc _ _).alloc _ _).alloc _ _).trans h
      replace a0 := h.keep a0
      replace a1 := h.keep a1
      replace b0 := h.keep b0
      replace b1 := h.keep b1
      replace az : w.heap.size < w2.heap.size := World.block_lt_of_cell? _ _ a0
      replace bz : w.heap.size + 1 < w2.heap.size := World.block_lt_of_cell? _ _ b0
      replace g := g.trans h
      clear h
      go_wp2_with fail
      refine (c1 _).mono ?_
      rintro e w3 ⟨rfl, h⟩
      replace h : Q w2 w3 := by first | exact h | exact ((Q.refl w2).alloc _ _).trans h | exact (((Q.refl w2).alloc _ _).alloc _ _).trans h | exact ((((Q.refl w2).alloc _ _).alloc _ _).alloc _ _).trans h | exact (((((Q.refl w2).alloc _ _).alloc _ _).alloc _ _).alloc _ _).trans h
      replace a0 := h.keep a0
      replace a1 := h.keep a1
      replace b0 := h.keep b0
      replace b1 := h.keep b1
      replace az : w.heap.size < w3.heap.size := World.block_lt_of_cell? _ _ a0
      replace bz : w.heap.size + 1 < w3.heap.size := World.block_lt_of_cell? _ _ b0
      replace g := g.trans h
      clear h
      go_wp2
      go_ret
      exact ⟨rfl, g⟩
  · rw [decide_eq_false r0] at c0
    clear hal hah hbl hbh r0 c1
    go_enter Try.func7, Try.ntmps7
    go_wp2_with fail
    refine (known2_any _).mono ?_
    rintro e w1 ⟨rfl, h⟩
    have a0 := h.keep (p := ⟨w.heap.size, 0, none⟩) (v := .int .i64 al) (by simp [go_sem])
    have a1 := h.keep (p := ⟨w.heap.size, 1, none⟩) (v := .int .i64 ah) (by simp [go_sem])
    have b0 := h.keep (p := ⟨w.heap.size + 1, 0, none⟩) (v := .int .i64 bl) (by simp [go_sem])
    have b1 := h.keep (p := ⟨w.heap.size + 1, 1, none⟩) (v := .int .i64 bh) (by simp [go_sem])
    replace h : Q w w1 := by first | exact h | exact ((Q.refl w).alloc _ _).trans h | exact (((Q.refl w).alloc _ _).alloc _ _).trans h | exact ((((Q.refl w).alloc _ _).alloc _ _).alloc _ _).trans h | exact (((((Q.refl w).alloc _ _).alloc _ _).alloc _ _).alloc _ _).trans h
    have az : w.heap.size < w1.heap.size := World.block_lt_of_cell? _ _ a0
    have bz : w.heap.size + 1 < w1.heap.size := World.block_lt_of_cell? _ _ b0
    have g := h
    clear h
    go_wp2_with fail
    refine (c0 _).mono ?_
    rintro e w2 ⟨rfl, h⟩
    replace h : Q w1 w2 := by first | exact h | exact ((Q.refl w1).alloc _ _).trans h | exact (((Q.refl w1).alloc _ _).alloc _ _).trans h | exact ((((Q.refl w1).alloc _ _).alloc _ _).alloc _ _).trans h | exact (((((Q.refl w1).alloc _ _).alloc _ _).alloc _ _).alloc _ _).trans h
    replace a0 := h.keep a0
    replace a1 := h.keep a1
    replace b0 := h.keep b0
    replace b1 := h.keep b1
    replace az : w.heap.size < w2.heap.size := World.block_lt_of_cell? _ _ a0
    replace bz : w.heap.size + 1 < w2.heap.size := World.block_lt_of_cell? _ _ b0
    replace g := g.trans h
    clear h
    go_wp2
    go_ret
    exact ⟨rfl, g⟩
end Go.Proofs.Ytehohogpnmokjaa
