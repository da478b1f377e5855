/-
  Layer 7: the walk of TipLifts.
-/
import Derived.Test.YtkiepmfknbbeaaaL7low
import Derived.Test.YtkiepmfknbbeaaaSeat2
import Derived.Lib.MinMax
namespace Go.Proofs.Ytkiepmfknbbeaaa
open Go.RowKit

set_option maxRecDepth 100000 in
set_option maxHeartbeats 8000000 in
theorem lifts_law {T : World → Value → List (Int × Int) → Prop} (c : TabC T) (k j : Int) (v : Value) (n : Nat) (rd : Bool) (nn z part : Int) (hk : (Lit.int .u8 k).wf = true) (hj : (Lit.int .u8 j).wf = true) (hn_ : (Lit.int .u32 nn).wf = true) (hz : (Lit.int .u16 z).wf = true) (hpt : (Lit.int .u16 part).wf = true) (w : World) (hv : IsU16 w v n) :
    Calls Try.prog 4 #[.int .u8 k, .int .u8 j, v, .bool rd, .int .u32 nn, .int .u16 z, .int .u16 part] w fun e w' => e = .returned (.bool true) ∧ B w w' := by
  obtain ⟨k1, k2⟩ := u8_wf hk
  obtain ⟨j1, j2⟩ := u8_wf hj
  obtain ⟨nn1, nn2⟩ := u32_wf hn_
  obtain ⟨z1, z2⟩ := u16_wf hz
  obtain ⟨part1, part2⟩ := u16_wf hpt
  clear hk hj hn_ hz hpt
  have c0 := fun w => known7_any c w
  have cX := fun w => outer_any j j1 j2 w
  have hro := outer_right (j % 3).toNat
  have cY := fun v w h => c.yes v (outerOf (j % 3).toNat) w h hro
  have hbo := tbnd_of hro
  generalize slAll (outerOf (j % 3).toNat) = O at *
  generalize outerOf (j % 3).toNat = lo at *
  have cW := fun w h => wild_any v n rd w h
  have cK := fun w => shape_any k k1 k2 w
  have rK := shape_right (k % 6).toNat
  generalize shapeOf (k % 6).toNat = lk at *
  obtain ⟨ao, cap0, rfl, hn⟩ := hv.form
  by_cases hn40 : 40 < n
  · have n40 : decide ((40 : Int) < (n : Int)) = true := decide_eq_true (by omega)
    clear hv
    go_enter Try.func4, Try.ntmps4
    go_wp2_with fail
    refine (c0 _).mono ?_
    rintro e w1 ⟨rfl, g⟩
    go_wp2
    go_ret
    exact ⟨rfl, g⟩
  have n40 : decide ((40 : Int) < (n : Int)) = false := decide_eq_false (by omega)
  have HV := Lib.hid hv
  clear hv hro
  obtain ⟨x, ex⟩ : ∃ z, nn % 2000000 = z := ⟨_, rfl⟩
  have tx : nn.tmod 2000000 = x := by rw [Int.tmod_eq_emod_of_nonneg (by omega)]; exact ex
  have bx : 0 ≤ x ∧ x < 2000000 := by omega
  have xx : IntKind.i64.wrap x = x := wrapI (by omega) (by omega)
  have yx : IntKind.u32.wrap x = x := wrapU32 (by omega) (by omega)
  obtain ⟨p, ep⟩ : ∃ z, part % 1001 = z := ⟨_, rfl⟩
  have tp : part.tmod 1001 = p := by rw [Int.tmod_eq_emod_of_nonneg (by omega)]; exact ep
  have bp : 0 ≤ p ∧ p < 1001 := by omega
  have xp : IntKind.i64.wrap p = p := wrapI (by omega) (by omega)
  have yp : IntKind.u16.wrap p = p := wrapU16 (by omega) (by omega)
  have wz : IntKind.i64.wrap z = z := wrapI (by omega) (by omega)
  obtain ⟨z5, ez5⟩ : ∃ y, z + 5000 = y := ⟨_, rfl⟩
  have wz5 : IntKind.i64.wrap (z + 5000) = z5 := by rw [ez5]; exact wrapI (by omega) (by omega)
  have ix : I64 x := by unfold I64; omega
  have ip : I64 p := by unfold I64; omega
  have iz : I64 z := by unfold I64; omega
  have iz5 : I64 z5 := by unfold I64; omega
  go_enter Try.func4, Try.ntmps4
  go_wp2_with fail
  refine (c0 _).mono ?_
  rintro e w1 ⟨rfl, g⟩
  clear c0
  go_wp2_with fail
  refine (cX _).mono ?_
  rintro e wa ⟨va, rfl, hva, q⟩
  replace g := g.trans q.b
  obtain ⟨oa, na, pa, rfl⟩ := hva.form
  clear q
  go_wp2_with fail
  refine (cY _ _ hva).mono ?_
  rintro e wb ⟨po, rfl, ho, q⟩
  replace g := g.trans q
  clear q hva cX cY
  go_wp2_with fail
  refine (cK _).mono ?_
  rintro e w2 ⟨v1, rfl, hv1, q2⟩
  obtain ⟨oo1, nn1, pp1, rfl⟩ := hv1.form
  replace g := g.trans q2.b
  replace ho := c.keep ho q2.b
  go_wp2_with fail
  refine (cW _ (HV.out.keepB g)).mono ?_
  rintro e w3 ⟨v2, l, rfl, hl, hr, g2⟩
  obtain ⟨oo2, nn2, pp2, rfl⟩ := hl.form
  replace g := g.trans g2
  replace ho := c.keep ho g2
  have T0 := fun t => twoS_new w3 t (.slice oo1 nn1 pp1) (.slice oo2 nn2 pp2) lk l (hv1.keepB g2) hl rK hr
  clear g2 cW HV cK q2 hv1 hl hr rK
  go_wp2
  have T2 := T0 22
  clear T0
  replace g := g.alloc #[.slice oo1 nn1 pp1, .slice oo2 nn2 pp2] 22
  replace ho := c.keep ho ((B.refl w3).alloc #[.slice oo1 nn1 pp1, .slice oo2 nn2 pp2] 22)
  generalize w3.alloc (.cells #[.slice oo1 nn1 pp1, .slice oo2 nn2 pp2] 22) = W1 at *
  generalize w3.heap.size = bb at *
  have G0 := Lib.hid g
  clear g
  go_loopw [43] (fun i wr => ∃ m : Nat, m ≤ 2 ∧ i = .int .i64 m ∧ T wr (.pointer (some po)) O ∧ B W1 wr) (fun i _ => 2 - (intOf i).toNat)
  case atStart => exact ⟨0, Nat.zero_le _, rfl, ho, B.refl _⟩
  case round =>
    clear ho
    obtain ⟨m, hm, rfl, ho, g⟩ := hrel
    by_cases hm2 : m < 2
    · have hmB : decide ((m : Int) < 2) = true := decide_eq_true (by omega)
      obtain ⟨vs, ls, hc, hsecs, hrs⟩ := (T2.keep g) m hm2
      obtain ⟨os, ns, ps, rfl⟩ := hsecs.form
      have cO := fun w h => c.yes (.slice os ns ps) ls w h hrs
      have hb := tbnd_of hrs
      have hL := slAll_pos hrs
      generalize slAll ls = L at *
      go_wp2_with fail
      refine (cO _ hsecs).mono ?_
      rintro e w4 ⟨pt, rfl, ht, q⟩
      replace g := g.trans q
      replace ho := c.keep ho q
      clear q cO hsecs hc hrs
      have c1 := fun w h1 h2 => truth_any c (.pointer (some pt)) (.pointer (some po)) L O x z p w hb hbo ix iz ip h1 h2
      have c2 := fun w h1 h2 => surf_any c (.pointer (some pt)) (.pointer (some po)) L O x z w hb hbo ix iz h1 h2
      have c3 := fun w h => clv_true c (.pointer (some pt)) L x p w hb ip h
      have c4 := fun w h => clv_high c (.pointer (some pt)) L x w hb h
      have c5 := fun w h1 h2 => surf_any c (.pointer (some pt)) (.pointer (some po)) L O x z5 w hb hbo ix iz5 h1 h2
      obtain ⟨r1, r2, r3, r4⟩ := tip_lifts hb hbo hL x z p
      rw [ez5] at r4
      generalize truthM L O x z p = A at *
      generalize surfM L O x z = S at *
      generalize surfM L O x z5 = S5 at *
      generalize lvTrue L x p = TT at *
      generalize lvHigh L x = HH at *
      have d1 : decide (S < A) = false := decide_eq_false (by omega)
      have d2 : decide (A < TT) = false := decide_eq_false (by omega)
      have d3 : decide (S < HH) = false := decide_eq_false (by omega)
      have d4 : decide (S < S5) = false := decide_eq_false (by omega)
      clear r1 r2 r3 r4
      go_wp2_with fail
      refine (c1 _ ht ho).mono ?_
      rintro e wS ⟨rfl, q⟩
      replace g := g.trans q
      replace ht := c.keep ht q
      replace ho := c.keep ho q
      clear q
      go_wp2_with fail
      refine (c2 _ ht ho).mono ?_
      rintro e wS ⟨rfl, q⟩
      replace g := g.trans q
      replace ht := c.keep ht q
      replace ho := c.keep ho q
      clear q
      go_wp2_with fail
      refine (c3 _ ht).mono ?_
      rintro e wS ⟨rfl, q⟩
      replace g := g.trans q
      replace ht := c.keep ht q
      replace ho := c.keep ho q
      clear q
      go_wp2_with fail
      refine (c4 _ ht).mono ?_
      rintro e wS ⟨rfl, q⟩
      replace g := g.trans q
      replace ht := c.keep ht q
      replace ho := c.keep ho q
      clear q
      go_wp2_with fail
      refine (c5 _ ht ho).mono ?_
      rintro e wS ⟨rfl, q⟩
      replace g := g.trans q
      replace ht := c.keep ht q
      replace ho := c.keep ho q
      clear q
      go_wp2
      go_roundw
      case rel => exact ⟨m + 1, by omega, by go_num, ho, g⟩
      case measure => simp [intOf]; omega
    · have hmB : decide ((m : Int) < 2) = false := decide_eq_false (by omega)
      replace g := G0.out.trans g
      go_wp2
      go_ret
      exact ⟨rfl, g⟩
end Go.Proofs.Ytkiepmfknbbeaaa
