/-
  The sides of a section at a height. No program is named here.
-/
import Derived.Test.YtkiepmfknbbeaaaSecp
import Derived.Test.YtkiepmfknbbeaaaSide
namespace Go.Proofs.Ytkiepmfknbbeaaa
open Go.RowKit

/-- The sides of a section at a height. -/
def sideOf (s : Sec) (at_ : Int) (up : Bool) : Int × Int :=
  if 1 ≤ s.h ∧ inB s.a0 0 20000 = true ∧ inB s.a1 0 20000 = true ∧ inB s.b0 0 20000 = true ∧ inB s.b1 0 20000 = true then
    (sideM s.a0 s.a1 (min (max at_ 0) s.h) s.h up, if s.r then 0 else sideM s.b0 s.b1 (min (max at_ 0) s.h) s.h up)
  else (0, 0)
theorem sideOf_ok {s : Sec} (h : secOk s = true) (at_ : Int) (up : Bool) : sideOf s at_ up = (sideM s.a0 s.a1 (min (max at_ 0) s.h) s.h up, if s.r then 0 else sideM s.b0 s.b1 (min (max at_ 0) s.h) s.h up) := by
  obtain ⟨h1, h2, h3, h4, h5, h6, h7, h8, h9, h10, _⟩ := secOk_all h
  unfold sideOf
  rw [if_pos ⟨h1, inB_iff.2 ⟨h3, h4⟩, inB_iff.2 ⟨by omega, h6⟩, inB_iff.2 ⟨h7, h8⟩, inB_iff.2 ⟨h9, h10⟩⟩]
theorem sideOf_low {s : Sec} (h : secOk s = true) (at_ : Int) (ha : at_ ≤ 0) (up : Bool) : sideOf s at_ up = (s.a0, s.b0) := by
  obtain ⟨h1, h2, h3, h4, h5, h6, h7, h8, h9, h10, hr⟩ := secOk_all h
  rw [sideOf_ok h, show min (max at_ 0) s.h = 0 by omega, side_low h1, side_low h1]
  cases e : s.r
  · rfl
  · rw [if_pos rfl, (hr e).1]
theorem sideOf_high {s : Sec} (h : secOk s = true) (at_ : Int) (ha : s.h ≤ at_) (up : Bool) : sideOf s at_ up = (s.a1, s.b1) := by
  obtain ⟨h1, h2, h3, h4, h5, h6, h7, h8, h9, h10, hr⟩ := secOk_all h
  rw [sideOf_ok h, show min (max at_ 0) s.h = s.h by omega, side_high h3 h4 (by omega) h6 h1, side_high h7 h8 h9 h10 h1]
  cases e : s.r
  · rfl
  · rw [if_pos rfl, (hr e).2]
end Go.Proofs.Ytkiepmfknbbeaaa
