/-
  Layer 7: the walk of TipPushes.
-/
import Derived.Test.YtkiepmfknbbeaaaL7low
import Derived.Lib.MinMax
namespace Go.Proofs.Ytkiepmfknbbeaaa
open Go.RowKit

set_option maxRecDepth 100000 in
set_option maxHeartbeats 4000000 in
theorem pushes_law {T : World → Value → List (Int × Int) → Prop} (c : TabC T) (j a b : Int) (hj : (Lit.int .u8 j).wf = true) (ha : (Lit.int .u16 a).wf = true) (hb : (Lit.int .u16 b).wf = true) (w : World) :
    Calls Try.prog 5 #[.int .u8 j, .int .u16 a, .int .u16 b] w fun e w' => e = .returned (.bool true) ∧ B w w' := by
  obtain ⟨j1, j2⟩ := u8_wf hj
  obtain ⟨a1, a2⟩ := u16_wf ha
  obtain ⟨b1, b2⟩ := u16_wf hb
  clear hj ha hb
  have ck := fun w => known7_any c w
  have cO := fun w => outer_any j j1 j2 w
  have hr := outer_right (j % 3).toNat
  have c1 := fun v w h => c.yes v (outerOf (j % 3).toNat) w h hr
  have hb := tbnd_of hr
  generalize slAll (outerOf (j % 3).toNat) = L at *
  generalize outerOf (j % 3).toNat = lo at *
  obtain ⟨x, ex⟩ : ∃ x, min a b = x := ⟨_, rfl⟩
  obtain ⟨y, ey⟩ : ∃ x, max a b = x := ⟨_, rfl⟩
  have wx : IntKind.i64.wrap x = x := wrapI (by omega) (by omega)
  have wy : IntKind.i64.wrap y = y := wrapI (by omega) (by omega)
  have wn : IntKind.i64.wrap (-y) = -y := wrapI (by omega) (by omega)
  have hn := hb.n
  have cS := fun v w h => c.slices v L w hb h
  have cH := fun v w h => c.high v L L.length w hb (by unfold I64; omega) h
  rw [nearI_of _ _ (Nat.le_refl _)] at cH
  have cT := fun v w h => c.tall v L w hb h
  have cx := fun v w h => push_any c v L x w hb h
  have cy := fun v w h => push_any c v L y w hb h
  have cN := fun v w h => push_any c v L (L.length * 100) w hb h
  have cB := fun v w h => push_any c v L 4611686018427387904 w hb h
  have cM := fun v w h => push_any c v L (-y) w hb h
  have r1 := lvVol_mono hb (show x ≤ y by omega) true
  have r2 := lvVol_to hb y
  rw [lvVol_all (Int.le_refl _)] at cN
  rw [lvVol_all (by omega)] at cB
  rw [lvVol_low L (by omega) true] at cM
  have bt := hb.at L.length (Nat.le_refl _)
  generalize highT L L.length = X at *
  obtain ⟨s1, es1⟩ : ∃ z, X + 999999 = z := ⟨_, rfl⟩
  have ws1 : IntKind.i64.wrap (X + 999999) = s1 := by rw [es1]; exact wrapI (by omega) (by omega)
  have ts1 : s1.tdiv 1000000 = s1 / 1000000 := Int.tdiv_eq_ediv_of_nonneg (by omega)
  rw [es1] at cN cB r2
  obtain ⟨al, eal⟩ : ∃ z, s1 / 1000000 = z := ⟨_, rfl⟩
  rw [eal] at ts1 cN cB r2
  have wal : IntKind.i64.wrap al = al := wrapI (by omega) (by omega)
  generalize lvVol L x true = PX at *
  generalize lvVol L y true = PY at *
  have d1 : decide (PX ≤ PY) = true := decide_eq_true r1
  have d2 : decide (PY ≤ al) = true := decide_eq_true r2
  obtain ⟨N, eN⟩ : ∃ N, (L.length : Int) * 100 = N := ⟨_, rfl⟩
  rw [eN] at cN cT
  clear r1 r2 bt es1 eal hb hr eN
  go_enter Try.func5, Try.ntmps5
  go_wp2_with fail
  refine (ck _).mono ?_
  rintro e w1 ⟨rfl, g⟩
  go_wp2_with fail
  refine (cO _).mono ?_
  rintro e w2 ⟨v1, rfl, hv1, q⟩
  replace g := g.trans q.b
  obtain ⟨o1, n1, p1, rfl⟩ := hv1.form
  clear q
  go_wp2_with fail
  refine (c1 _ _ hv1).mono ?_
  rintro e w3 ⟨p, rfl, ht, q⟩
  replace g := g.trans q
  clear hv1 q
  go_wp2_with fail
  refine (cS _ _ ht).mono ?_
  rintro e wS ⟨rfl, q⟩
  replace g := g.trans q
  replace ht := c.keep ht q
  clear q
  go_wp2_with fail
  refine (cH _ _ ht).mono ?_
  rintro e wS ⟨rfl, q⟩
  replace g := g.trans q
  replace ht := c.keep ht q
  clear q
  go_wp2_with fail
  refine (cx _ _ ht).mono ?_
  rintro e wS ⟨rfl, q⟩
  replace g := g.trans q
  replace ht := c.keep ht q
  clear q
  go_wp2_with fail
  refine (cy _ _ ht).mono ?_
  rintro e wS ⟨rfl, q⟩
  replace g := g.trans q
  replace ht := c.keep ht q
  clear q
  go_wp2_with fail
  refine (cy _ _ ht).mono ?_
  rintro e wS ⟨rfl, q⟩
  replace g := g.trans q
  replace ht := c.keep ht q
  clear q
  go_wp2_with fail
  refine (cT _ _ ht).mono ?_
  rintro e wS ⟨rfl, q⟩
  replace g := g.trans q
  replace ht := c.keep ht q
  clear q
  go_wp2_with fail
  refine (cN _ _ ht).mono ?_
  rintro e wS ⟨rfl, q⟩
  replace g := g.trans q
  replace ht := c.keep ht q
  clear q
  go_wp2_with fail
  refine (cB _ _ ht).mono ?_
  rintro e wS ⟨rfl, q⟩
  replace g := g.trans q
  replace ht := c.keep ht q
  clear q
  go_wp2_with fail
  refine (cM _ _ ht).mono ?_
  rintro e wS ⟨rfl, q⟩
  replace g := g.trans q
  replace ht := c.keep ht q
  clear q
  go_wp2
  go_ret
  exact ⟨rfl, g⟩
end Go.Proofs.Ytkiepmfknbbeaaa
