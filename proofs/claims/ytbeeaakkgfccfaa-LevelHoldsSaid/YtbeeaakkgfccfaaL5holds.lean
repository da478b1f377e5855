/-
  Layer 5: the walk of LevelHolds.
-/
import Derived.Test.YtbeeaakkgfccfaaL5a
import Derived.Test.YtbeeaakkgfccfaaSeat2
import Derived.Test.YtbeeaakkgfccfaaWf
import Derived.Lib.MinMax
namespace Go.Proofs.Ytbeeaakkgfccfaa
open Go.RowKit

set_option maxRecDepth 100000 in
set_option maxHeartbeats 8000000 in
theorem holds_law {T : World → Value → List (Int × Int) → Prop} (c : TabC T) (lv : LvC T) (lw : VolC T) (k : Int) (v : Value) (n : Nat) (rd : Bool) (nn more part : Int) (hk : (Lit.int .u8 k).wf = true) (hnn : (Lit.int .u32 nn).wf = true) (hmore : (Lit.int .u16 more).wf = true) (hpart : (Lit.int .u16 part).wf = true) (w : World) (hv : IsU16 w v n) :
    Calls Try.prog 4 #[.int .u8 k, v, .bool rd, .int .u32 nn, .int .u16 more, .int .u16 part] w fun e w' => e = .returned (.bool true) ∧ B w w' := by
  obtain ⟨k1, k2⟩ := u8_wf hk
  obtain ⟨nn1, nn2⟩ := u32_wf hnn
  obtain ⟨more1, more2⟩ := u16_wf hmore
  obtain ⟨part1, part2⟩ := u16_wf hpart

  clear hk hnn hmore hpart
  have c0 := fun w => known5_any c lv lw w
  have cW := fun w h => wild_any v n rd w h
  have cK := fun w => shape_any k k1 k2 w
  have rK := shape_right (k % 6).toNat
  generalize shapeOf (k % 6).toNat = lk at *
  obtain ⟨ao, cap0, rfl, hn⟩ := hv.form
  by_cases hn40 : 40 < n
  · have n40 : decide ((40 : Int) < (n : Int)) = true := decide_eq_true (by omega)
    clear hv
    go_enter Try.func4, Try.ntmps4
    go_wp2_with fail
    refine (c0 _).mono ?_
    rintro e w1 ⟨rfl, g⟩
    go_wp2
    go_ret
    exact ⟨rfl, g⟩
  have n40 : decide ((40 : Int) < (n : Int)) = false := decide_eq_false (by omega)
  have HV := Lib.hid hv
  clear hv
  obtain ⟨x, ex⟩ : ∃ z, nn % 3000000 = z := ⟨_, rfl⟩
  have tx : nn.tmod 3000000 = x := by rw [Int.tmod_eq_emod_of_nonneg (by omega)]; exact ex
  have bx : 0 ≤ x ∧ x < 3000000 := by omega
  have xx : IntKind.i64.wrap x = x := wrapI (by omega) (by omega)
  have yx : IntKind.u32.wrap x = x := wrapU32 (by omega) (by omega)
  obtain ⟨p, ep⟩ : ∃ z, part % 1001 = z := ⟨_, rfl⟩
  have tp : part.tmod 1001 = p := by rw [Int.tmod_eq_emod_of_nonneg (by omega)]; exact ep
  have bp : 0 ≤ p ∧ p < 1001 := by omega
  have xp : IntKind.i64.wrap p = p := wrapI (by omega) (by omega)
  have yp : IntKind.u16.wrap p = p := wrapU16 (by omega) (by omega)
  have wm : IntKind.i64.wrap more = more := wrapI (by omega) (by omega)
  obtain ⟨y, ey⟩ : ∃ y, x + more = y := ⟨_, rfl⟩
  have wy : IntKind.i64.wrap (x + more) = y := by rw [ey]; exact wrapI (by omega) (by omega)
  have hxy : x ≤ y := by omega
  have ix : I64 x := by unfold I64; omega
  have iy : I64 y := by unfold I64; omega
  have ip : I64 p := by unfold I64; omega
  go_enter Try.func4, Try.ntmps4
  go_wp2_with fail
  refine (c0 _).mono ?_
  rintro e w1 ⟨rfl, g⟩
  go_wp2_with fail
  refine (cK _).mono ?_
  rintro e w2 ⟨v1, rfl, hv1, q2⟩
  obtain ⟨oo1, nn1, pp1, rfl⟩ := hv1.form
  replace g := g.trans q2.b
  go_wp2_with fail
  refine (cW _ (HV.out.keepB g)).mono ?_
  rintro e w3 ⟨v2, l, rfl, hl, hr, g2⟩
  obtain ⟨oo2, nn2, pp2, rfl⟩ := hl.form
  replace g := g.trans g2
  have T0 := fun t => twoS_new w3 t (.slice oo1 nn1 pp1) (.slice oo2 nn2 pp2) lk l (hv1.keepB g2) hl rK hr
  clear g2 cW c0 HV cK q2 hv1 hl hr rK
  go_wp2
  have T2 := T0 25
  clear T0
  replace g := g.alloc #[.slice oo1 nn1 pp1, .slice oo2 nn2 pp2] 25
  generalize w3.alloc (.cells #[.slice oo1 nn1 pp1, .slice oo2 nn2 pp2] 25) = W1 at *
  generalize w3.heap.size = bb at *
  have G0 := Lib.hid g
  clear g
  go_loopw [34] (fun i wr => ∃ m : Nat, m ≤ 2 ∧ i = .int .i64 m ∧ B W1 wr) (fun i _ => 2 - (intOf i).toNat)
  case atStart => exact ⟨0, Nat.zero_le _, rfl, B.refl _⟩
  case round =>
    obtain ⟨m, hm, rfl, g⟩ := hrel
    by_cases hm2 : m < 2
    · have hmB : decide ((m : Int) < 2) = true := decide_eq_true (by omega)
      obtain ⟨vs, ls, hc, hsecs, hrs⟩ := (T2.keep g) m hm2
      obtain ⟨os, ns, ps, rfl⟩ := hsecs.form
      have cO := fun w h => both_any c (.slice os ns ps) ls w h hrs
      have hb := tbnd_of hrs
      have hL := slAll_pos hrs
      generalize slAll ls = L at *
      go_wp2_with fail
      refine (cO _ hsecs).mono ?_
      rintro e w4 ⟨pt, pw, rfl, ht, hw, h⟩
      replace g := g.trans h
      clear h cO hsecs hc hrs
      have c1 := fun w h => lv.tru (.pointer (some pt)) L x p w hb ix ip h
      have c2 := fun w h => lv.tru (.pointer (some pt)) L y p w hb iy ip h
      have c3 := fun w h => lv.low (.pointer (some pt)) L x w hb ix h
      have c4 := fun w h => lv.high (.pointer (some pt)) L x w hb ix h
      have c5 := fun w h => lv.low (.pointer (some pt)) L y w hb iy h
      have c6 := fun w h => lv.high (.pointer (some pt)) L y w hb iy h
      have r1 := lv_between hb hL x p
      have r2 := lvTrue_mono L p hxy
      have r3 := lvLow_mono L hxy
      have r4 := lvHigh_mono L hxy
      generalize lvTrue L x p = A at *
      generalize lvTrue L y p = D at *
      generalize lvLow L x = E at *
      generalize lvLow L y = F at *
      generalize lvHigh L x = G at *
      generalize lvHigh L y = J at *
      have d1 : decide (A < E) = false := decide_eq_false (by omega)
      have d2 : decide (G < A) = false := decide_eq_false (by omega)
      have d3 : decide (D < A) = false := decide_eq_false (by omega)
      have d4 : decide (F < E) = false := decide_eq_false (by omega)
      have d5 : decide (J < G) = false := decide_eq_false (by omega)
      clear r1 r2 r3 r4
      go_wp2_with fail
      refine (c1 _ ht).mono ?_
      rintro e wS ⟨rfl, q⟩
      replace g := g.trans q
      replace ht := c.keep ht q
      clear q
      go_wp2_with fail
      refine (c2 _ ht).mono ?_
      rintro e wS ⟨rfl, q⟩
      replace g := g.trans q
      replace ht := c.keep ht q
      clear q
      go_wp2_with fail
      refine (c3 _ ht).mono ?_
      rintro e wS ⟨rfl, q⟩
      replace g := g.trans q
      replace ht := c.keep ht q
      clear q
      go_wp2_with fail
      refine (c4 _ ht).mono ?_
      rintro e wS ⟨rfl, q⟩
      replace g := g.trans q
      replace ht := c.keep ht q
      clear q
      go_wp2_with fail
      refine (c3 _ ht).mono ?_
      rintro e wS ⟨rfl, q⟩
      replace g := g.trans q
      replace ht := c.keep ht q
      clear q
      go_wp2_with fail
      refine (c5 _ ht).mono ?_
      rintro e wS ⟨rfl, q⟩
      replace g := g.trans q
      replace ht := c.keep ht q
      clear q
      go_wp2_with fail
      refine (c4 _ ht).mono ?_
      rintro e wS ⟨rfl, q⟩
      replace g := g.trans q
      replace ht := c.keep ht q
      clear q
      go_wp2_with fail
      refine (c6 _ ht).mono ?_
      rintro e wS ⟨rfl, q⟩
      replace g := g.trans q
      replace ht := c.keep ht q
      clear q
      go_wp2
      go_roundw
      case rel => exact ⟨m + 1, by omega, by go_num, g⟩
      case measure => simp [intOf]; omega
    · have hmB : decide ((m : Int) < 2) = false := decide_eq_false (by omega)
      replace g := G0.out.trans g
      go_wp2
      go_ret
      exact ⟨rfl, g⟩
end Go.Proofs.Ytbeeaakkgfccfaa
