/-
  Layer 4: the code's tables: what else they answer.
-/
import Derived.Test.YtkiepmfknbbeaaaTabsh
import Derived.Test.YtkiepmfknbbeaaaTabC
namespace Go.Proofs.Ytkiepmfknbbeaaa
open Go.RowKit

theorem clow_any (p : Value) (L : List (Int × Int)) (i : Int) (w : World) (hb : TBnd L) (ht : CTab w p L) :
    Calls Try.prog 51 #[p, .int .i64 i] w fun e w' => e = .returned (.int .i64 (lowT L (nearI L.length i))) ∧ B w w' := by
  obtain ⟨b, aL, cL, aH, cH, hn, rfl, h0, h1, h2, h3, h4⟩ := ht
  have c := below_any (lowT L) (lowT_zero L) aL L.length cL hn hb.n i w h3
  generalize lowT L (nearI L.length i) = X at *
  clear h0 h2 h3 h4 hb hn
  go_enter Try.func51, Try.ntmps51
  go_wp2_with fail
  refine c.mono ?_
  rintro e w1 ⟨rfl, g⟩
  go_wp2
  go_ret
  exact ⟨rfl, g⟩
theorem mv_way (d q : Int) (h0 : 0 ≤ d) (h1 : d ≤ 24000000000000) (q0 : 0 ≤ q) (q1 : q ≤ 1000) : mv d q 1000 false = d * q / 1000 := by
  have f1 : 0 ≤ d * q := Int.mul_nonneg h0 q0
  have f2 : d * q ≤ 24000000000000 * 1000 := mul_le h0 h1 q0 q1
  rw [mv, if_neg (by omega), mq_pos _ _ _ (by omega), mdQ, if_neg (by decide), qv_yes (by unfold I64; omega)]
theorem ctrue_any (p : Value) (L : List (Int × Int)) (i part : Int) (w : World) (hb : TBnd L) (ht : CTab w p L) :
    Calls Try.prog 48 #[p, .int .i64 i, .int .i64 part] w fun e w' => e = .returned (.int .i64 (trueM (lowT L (nearI L.length i)) (highT L (nearI L.length i)) (min (max part 0) 1000))) ∧ B w w' := by
  have cL := fun w ht => clow_any p L i w hb ht
  have cH := fun w ht => chigh_any p L i w hb ht
  obtain ⟨b1, b2, b3⟩ := hb.at _ (nearI_le L.length i)
  have HT := Lib.hid ht
  obtain ⟨b, aL, cLL, aH, cHH, hn, rfl, _⟩ := ht
  unfold trueM
  generalize lowT L (nearI L.length i) = lo at *
  generalize highT L (nearI L.length i) = hi' at *
  obtain ⟨m, e1⟩ : ∃ m, max part 0 = m := ⟨_, rfl⟩
  obtain ⟨q, e2⟩ : ∃ q, min m 1000 = q := ⟨_, rfl⟩
  rw [e1, e2]
  obtain ⟨d, e3⟩ : ∃ d, hi' - lo = d := ⟨_, rfl⟩
  rw [e3]
  have w1 : IntKind.i64.wrap (hi' - lo) = d := by rw [e3]; exact wrapI (by omega) (by omega)
  have w1' : IntKind.i64.wrap d = d := wrapI (by omega) (by omega)
  have f1 : 0 ≤ d * q := Int.mul_nonneg (by omega) (by omega)
  have f2 : d * q ≤ 24000000000000 * 1000 := mul_le (by omega) (by omega) (by omega) (by omega)
  have c := fun w => muldiv_any d q 1000 false (by unfold I64; omega) (by unfold I64; omega) (by decide) w
  rw [mv_way d q (by omega) (by omega) (by omega) (by omega)] at c
  generalize me d q 1000 false = E at *
  have w5 : IntKind.i64.wrap (lo + d * q / 1000) = lo + d * q / 1000 := wrapI (by omega) (by omega)
  generalize d * q / 1000 = z at *
  clear f1 f2 b1 b2 b3 hb hn
  go_enter Try.func48, Try.ntmps48
  go_wp2_with fail
  refine (cL _ HT.out).mono ?_
  rintro e wA ⟨rfl, q1⟩
  have h1 := HT.out.keepB q1
  go_wp2_with fail
  refine (cH _ h1).mono ?_
  rintro e wB ⟨rfl, q2⟩
  replace q1 := q1.trans q2
  go_wp2_with fail
  refine (c _).mono ?_
  rintro e wC ⟨rfl, q3⟩
  replace q1 := q1.trans q3.q.b
  go_wp2
  go_ret
  exact ⟨rfl, q1⟩

/-- The code's tables do what the document says. -/
theorem tab_code : TabC CTab where
  keep := fun h q => h.keepB q
  ptr := fun h => by obtain ⟨b, _, _, _, _, _, h0, _⟩ := h; exact ⟨_, h0⟩
  ofs := cof_any
  slices := fun v L w hb ht => cslices_any v L w hb ht
  low := fun v L i w hb _ ht => clow_any v L i w hb ht
  high := fun v L i w hb _ ht => chigh_any v L i w hb ht
  tru := fun v L i part w hb _ _ ht => ctrue_any v L i part w hb ht
  tall := fun v L w _ ht => ctall_any v L w ht
end Go.Proofs.Ytkiepmfknbbeaaa
