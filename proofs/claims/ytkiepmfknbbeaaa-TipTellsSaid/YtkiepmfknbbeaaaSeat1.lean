/-
  The statements' shapes of a number.
-/
import Derived.Test.YtkiepmfknbbeaaaChecked
import Derived.Test.YtkiepmfknbbeaaaSec
namespace Go.Proofs.Ytkiepmfknbbeaaa
open Go.RowKit

/-- The shape of a number. -/
def shapeOf : Nat → List Sec
  | 0 => [⟨true, 10000, 7000, 0, 7000, 0⟩]
  | 1 => [⟨true, 3000, 0, 0, 6000, 0⟩, ⟨true, 9000, 6000, 0, 6500, 0⟩]
  | 2 => [⟨false, 20000, 8000, 8000, 8400, 8400⟩]
  | 3 => [⟨false, 4000, 7000, 0, 7000, 7000⟩, ⟨false, 8000, 7000, 7000, 7000, 7000⟩]
  | 4 => [⟨true, 1800, 5000, 0, 5000, 0⟩]
  | _ => [⟨true, 2000, 1000, 0, 5200, 0⟩, ⟨true, 500, 5200, 0, 4800, 0⟩, ⟨true, 11500, 4800, 0, 7000, 0⟩]
/-- A shape is answered, in new memory. -/
def Shaped (l : List Sec) (w : World) (e : Ending) (w' : World) : Prop := ∃ v, e = .returned v ∧ IsSecs w' v l ∧ Q w w'
/-- Its numbers fit. -/
def fitsB (l : List Sec) : Bool := l.all fun s => decide (I64 s.h) && decide (I64 s.a0) && decide (I64 s.b0) && decide (I64 s.a1) && decide (I64 s.b1)
theorem fitsB_I {l : List Sec} (h : fitsB l = true) : ∀ s ∈ l, s.I := by
  intro s hs
  have := List.all_eq_true.1 h s hs
  simp only [Bool.and_eq_true, decide_eq_true_eq] at this
  exact ⟨this.1.1.1.1, this.1.1.1.2, this.1.1.2, this.1.2, this.2⟩

theorem shape_pick (w : World) (m : Nat) (h : m < 6) : ∃ V, [Value.slice (some ⟨w.heap.size, 0, none⟩) 1 1, Value.slice (some ⟨w.heap.size + 1, 0, none⟩) 2 2, Value.slice (some ⟨w.heap.size + 1 + 1, 0, none⟩) 1 1, Value.slice (some ⟨w.heap.size + 1 + 1 + 1, 0, none⟩) 2 2, Value.slice (some ⟨w.heap.size + 1 + 1 + 1 + 1, 0, none⟩) 1 1, Value.slice (some ⟨w.heap.size + 1 + 1 + 1 + 1 + 1, 0, none⟩) 3 3][m]? = some V := by
  match m, h with
  | 0, _ => exact ⟨_, rfl⟩
  | 1, _ => exact ⟨_, rfl⟩
  | 2, _ => exact ⟨_, rfl⟩
  | 3, _ => exact ⟨_, rfl⟩
  | 4, _ => exact ⟨_, rfl⟩
  | 5, _ => exact ⟨_, rfl⟩

set_option maxHeartbeats 4000000 in
theorem shape_any (k : Int) (h1 : 0 ≤ k) (h2 : k ≤ 255) (w : World) :
    Calls Try.prog 17 #[.int .u8 k] w (Shaped (shapeOf (k % 6).toNat) w) := by
  obtain ⟨V, hp⟩ := shape_pick w (k % 6).toNat (by omega)
  have HP := Lib.hid hp
  have hm : (k % 6).toNat < 6 := by omega
  have HM := Lib.hid hm
  clear hm
  go_enter Try.func17, Try.ntmps17
  go_wp2
  go_ret
  refine ⟨V, rfl, ?_, ?_⟩
  · clear hp h1 h2
    have hp := HP.out
    have hm := HM.out
    clear HP HM
    generalize (k % 6).toNat = m at *
    match m, hm with
    | 0, _ =>
      obtain rfl : Value.slice (some ⟨w.heap.size, 0, none⟩) 1 1 = V := Option.some.inj hp
      exact (isSecs_new (l := shapeOf 0) rfl (by simp) (fitsB_I (by decide)) (by decide) (by decide)).keep (((((((Q.refl _).alloc _ _).alloc _ _).alloc _ _).alloc _ _).alloc _ _).alloc _ _)
    | 1, _ =>
      obtain rfl : Value.slice (some ⟨w.heap.size + 1, 0, none⟩) 2 2 = V := Option.some.inj hp
      exact (isSecs_new (l := shapeOf 1) rfl (by simp) (fitsB_I (by decide)) (by decide) (by decide)).keep ((((((Q.refl _).alloc _ _).alloc _ _).alloc _ _).alloc _ _).alloc _ _)
    | 2, _ =>
      obtain rfl : Value.slice (some ⟨w.heap.size + 1 + 1, 0, none⟩) 1 1 = V := Option.some.inj hp
      exact (isSecs_new (l := shapeOf 2) rfl (by simp) (fitsB_I (by decide)) (by decide) (by decide)).keep (((((Q.refl _).alloc _ _).alloc _ _).alloc _ _).alloc _ _)
    | 3, _ =>
      obtain rfl : Value.slice (some ⟨w.heap.size + 1 + 1 + 1, 0, none⟩) 2 2 = V := Option.some.inj hp
      exact (isSecs_new (l := shapeOf 3) rfl (by simp) (fitsB_I (by decide)) (by decide) (by decide)).keep ((((Q.refl _).alloc _ _).alloc _ _).alloc _ _)
    | 4, _ =>
      obtain rfl : Value.slice (some ⟨w.heap.size + 1 + 1 + 1 + 1, 0, none⟩) 1 1 = V := Option.some.inj hp
      exact (isSecs_new (l := shapeOf 4) rfl (by simp) (fitsB_I (by decide)) (by decide) (by decide)).keep (((Q.refl _).alloc _ _).alloc _ _)
    | 5, _ =>
      obtain rfl : Value.slice (some ⟨w.heap.size + 1 + 1 + 1 + 1 + 1, 0, none⟩) 3 3 = V := Option.some.inj hp
      exact (isSecs_new (l := shapeOf 5) rfl (by simp) (fitsB_I (by decide)) (by decide) (by decide)).keep ((Q.refl _).alloc _ _)
  · exact ((((((((Q.refl _).alloc _ _).alloc _ _).alloc _ _).alloc _ _).alloc _ _).alloc _ _).alloc _ _)
end Go.Proofs.Ytkiepmfknbbeaaa
