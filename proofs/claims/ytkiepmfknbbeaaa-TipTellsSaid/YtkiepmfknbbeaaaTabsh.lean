/-
  Layer 4: the code's tables: how many slices, how high, upper sums.
-/
import Derived.Test.YtkiepmfknbbeaaaTabof
namespace Go.Proofs.Ytkiepmfknbbeaaa
open Go.RowKit

theorem cslices_any (p : Value) (L : List (Int × Int)) (w : World) (hb : TBnd L) (ht : CTab w p L) :
    Calls Try.prog 27 #[p] w fun e w' => e = .returned (.int .i64 L.length) ∧ B w w' := by
  obtain ⟨b, aL, cL, aH, cH, hn, rfl, h0, h1, h2, h3, h4⟩ := ht
  have hn6 := hb.n
  clear h0 h2 h3 h4 hb
  obtain ⟨N, hN⟩ : ∃ N, L.length = N := ⟨_, rfl⟩
  rw [hN] at h1 hn6 ⊢
  have w2 : IntKind.i64.wrap (N : Int) = (N : Int) := wrapI (by omega) (by omega)
  go_enter Try.func27, Try.ntmps27
  go_wp2
  go_ret
  exact ⟨rfl, B.refl _⟩
theorem ctall_any (p : Value) (L : List (Int × Int)) (w : World) (ht : CTab w p L) :
    Calls Try.prog 28 #[p] w fun e w' => e = .returned (.int .i64 (L.length * 100)) ∧ B w w' := by
  obtain ⟨b, aL, cL, aH, cH, hn, rfl, h0, h1, h2, h3, h4⟩ := ht
  clear h1 h2 h3 h4
  generalize (L.length : Int) * 100 = X at *
  go_enter Try.func28, Try.ntmps28
  go_wp2
  go_ret
  exact ⟨rfl, B.refl _⟩
theorem chigh_any (p : Value) (L : List (Int × Int)) (i : Int) (w : World) (hb : TBnd L) (ht : CTab w p L) :
    Calls Try.prog 26 #[p, .int .i64 i] w fun e w' => e = .returned (.int .i64 (highT L (nearI L.length i))) ∧ B w w' := by
  obtain ⟨b, aL, cL, aH, cH, hn, rfl, h0, h1, h2, h3, h4⟩ := ht
  have c := below_any (highT L) (highT_zero L) aH L.length cH hn hb.n i w h4
  generalize highT L (nearI L.length i) = X at *
  clear h0 h1 h3 h4 hb hn
  go_enter Try.func26, Try.ntmps26
  go_wp2_with fail
  refine c.mono ?_
  rintro e w1 ⟨rfl, g⟩
  go_wp2
  go_ret
  exact ⟨rfl, g⟩
end Go.Proofs.Ytkiepmfknbbeaaa
