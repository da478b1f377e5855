/-
  Layer 3: what the statements ask of the code, and what their help 'known' answers.
-/
import Derived.Test.YthibjkjdimgipaaDoorSeat1
import Derived.Test.YthibjkjdimgipaaDoorSide
namespace Go.Proofs.YthibjkjdimgipaaDoor
open Go.RowKit

/-- The sides of a section at a height. -/
def sideOf (s : Sec) (at_ : Int) (up : Bool) : Int × Int :=
  if 1 ≤ s.h ∧ inB s.a0 0 20000 = true ∧ inB s.a1 0 20000 = true ∧ inB s.b0 0 20000 = true ∧ inB s.b1 0 20000 = true then
    (sideM s.a0 s.a1 (min (max at_ 0) s.h) s.h up, if s.r then 0 else sideM s.b0 s.b1 (min (max at_ 0) s.h) s.h up)
  else (0, 0)
/-- The code's Side, Right, Height do what the document says. -/
def SideC : Prop := ∀ (r : Bool) (h a0 b0 a1 b1 at_ : Int) (up : Bool) (w : World), Sec.I ⟨r, h, a0, b0, a1, b1⟩ → I64 at_ →
  Calls Tryd.prog 10 #[.agg #[.bool r, .int .i64 h, .int .i64 a0, .int .i64 b0, .int .i64 a1, .int .i64 b1], .int .i64 at_, .bool up] w fun e w' =>
    e = .returned (.tuple #[.int .i64 (sideOf ⟨r, h, a0, b0, a1, b1⟩ at_ up).1, .int .i64 (sideOf ⟨r, h, a0, b0, a1, b1⟩ at_ up).2]) ∧ B w w'
def RightC : Prop := ∀ (v : Value) (l : List Sec) (w : World), IsSecs w v l → Calls Tryd.prog 11 #[v] w fun e w' => e = .returned (.bool (rightS l)) ∧ B w w'
def HeightC : Prop := ∀ (v : Value) (l : List Sec) (w : World), IsSecs w v l → rightS l = true → Calls Tryd.prog 12 #[v] w fun e w' => e = .returned (.int .i64 (hsumI l l.length)) ∧ B w w'

set_option maxHeartbeats 1000000 in
theorem known3_any (hS : SideC) (hR : RightC) (hH : HeightC) (w : World) : Calls Tryd.prog 4 #[] w fun e w' => e = .returned (.bool true) ∧ B w w' := by
  have c1 := fun w => hS true 200 0 0 100 0 100 false w (by refine ⟨?_, ?_, ?_, ?_, ?_⟩ <;> decide) (by decide)
  rw [show sideOf ⟨true, 200, 0, 0, 100, 0⟩ 100 false = (50, 0) by decide] at c1
  have c2 := fun v w h => hR v [⟨true, 200, 0, 0, 100, 0⟩] w h
  rw [show rightS [⟨true, 200, 0, 0, 100, 0⟩] = true by decide] at c2
  have c3 := fun w => hR (.slice none 0 0) [] w (.inl ⟨rfl, rfl⟩)
  rw [show rightS [] = false by decide] at c3
  have c4 := fun w => shape_any 0 (by decide) (by decide) w
  have c5 := fun v w h => hH v (shapeOf 0) w h (by decide)
  rw [show hsumI (shapeOf 0) (shapeOf 0).length = 10000 by decide] at c5
  clear hS hR hH
  go_enter Tryd.func4, Tryd.ntmps4
  go_wp2_with fail
  refine (c1 _).mono ?_
  rintro e w1 ⟨rfl, h⟩
  have x0 := h.keep (p := ⟨w.heap.size, 0, none⟩) (v := .bool true) (by simp [go_sem])
  have x1 := h.keep (p := ⟨w.heap.size, 1, none⟩) (v := .int .i64 200) (by simp [go_sem])
  have x2 := h.keep (p := ⟨w.heap.size, 2, none⟩) (v := .int .i64 0) (by simp [go_sem])
  have x3 := h.keep (p := ⟨w.heap.size, 3, none⟩) (v := .int .i64 0) (by simp [go_sem])
  have x4 := h.keep (p := ⟨w.heap.size, 4, none⟩) (v := .int .i64 100) (by simp [go_sem])
  have x5 := h.keep (p := ⟨w.heap.size, 5, none⟩) (v := .int .i64 0) (by simp [go_sem])
  have g := ((B.refl w).alloc _ _).trans h
  clear h
  go_wp2_with fail
  refine (c2 _ _ (isSecs_new (l := [⟨true, 200, 0, 0, 100, 0⟩]) rfl rfl (fitsB_I (by decide)) (by decide) (by decide))).mono ?_
  rintro e w2 ⟨rfl, h⟩
  replace g := (g.alloc _ _).trans h
  clear h
  go_wp2_with fail
  refine (c3 _).mono ?_
  rintro e w3 ⟨rfl, h⟩
  replace g := g.trans h
  clear h
  go_wp2_with fail
  refine (c4 _).mono ?_
  rintro e w4 ⟨v, rfl, hv, h⟩
  replace g := g.trans h.b
  clear h
  go_wp2_with fail
  refine (c5 _ _ hv).mono ?_
  rintro e w5 ⟨rfl, h⟩
  replace g := g.trans h
  clear h
  go_wp2
  go_ret
  exact ⟨rfl, g⟩
end Go.Proofs.YthibjkjdimgipaaDoor
