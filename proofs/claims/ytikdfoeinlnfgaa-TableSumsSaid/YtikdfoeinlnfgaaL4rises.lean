/-
  Layer 4: the walk of TableRises.
-/
import Derived.Test.YtikdfoeinlnfgaaL4round
import Derived.Test.YtikdfoeinlnfgaaSeat2
import Derived.Lib.MinMax
namespace Go.Proofs.Ytikdfoeinlnfgaa
open Go.RowKit

set_option maxRecDepth 100000 in
set_option maxHeartbeats 8000000 in
theorem rises_law {T : World → Value → List (Int × Int) → Prop} (c : TabC T) (k : Int) (v : Value) (n : Nat) (rd : Bool) (pa ot : Int) (hk : (Lit.int .u8 k).wf = true) (hp : (Lit.int .u16 pa).wf = true) (ho : (Lit.int .u16 ot).wf = true) (w : World) (hv : IsU16 w v n) :
    Calls Try.prog 4 #[.int .u8 k, v, .bool rd, .int .u16 pa, .int .u16 ot] w fun e w' => e = .returned (.bool true) ∧ B w w' := by
  obtain ⟨k1, k2⟩ := u8_wf hk
  obtain ⟨p1, p2⟩ := u16_wf hp
  obtain ⟨o1, o2⟩ := u16_wf ho
  clear hk hp ho
  have c0 := fun w => known4_any c w
  have cW := fun w h => wild_any v n rd w h
  have cK := fun w => shape_any k k1 k2 w
  have rK := shape_right (k % 6).toNat
  generalize shapeOf (k % 6).toNat = lk at *
  obtain ⟨ao, cap0, rfl, hn⟩ := hv.form
  by_cases hn40 : 40 < n
  · have n40 : decide ((40 : Int) < (n : Int)) = true := decide_eq_true (by omega)
    clear hv
    go_enter Try.func4, Try.ntmps4
    go_wp2_with fail
    refine (c0 _).mono ?_
    rintro e w1 ⟨rfl, g⟩
    go_wp2
    go_ret
    exact ⟨rfl, g⟩
  have n40 : decide ((40 : Int) < (n : Int)) = false := decide_eq_false (by omega)
  have HV := Lib.hid hv
  clear hv
  obtain ⟨p, ep⟩ : ∃ p, pa % 1001 = p := ⟨_, rfl⟩
  obtain ⟨q, eq⟩ : ∃ p, ot % 1001 = p := ⟨_, rfl⟩
  have ep' : pa.tmod 1001 = p := by rw [Int.tmod_eq_emod_of_nonneg p1]; exact ep
  have eq' : ot.tmod 1001 = q := by rw [Int.tmod_eq_emod_of_nonneg o1]; exact eq
  have pb : 0 ≤ p ∧ p ≤ 1000 := by omega
  have qb : 0 ≤ q ∧ q ≤ 1000 := by omega
  have wp : IntKind.i64.wrap p = p := wrapI (by omega) (by omega)
  have wq : IntKind.i64.wrap q = q := wrapI (by omega) (by omega)
  obtain ⟨m1, em1⟩ : ∃ m, min p q = m := ⟨_, rfl⟩
  obtain ⟨m2, em2⟩ : ∃ m, max p q = m := ⟨_, rfl⟩
  have m1b : 0 ≤ m1 ∧ m1 ≤ m2 ∧ m2 ≤ 1000 := by omega
  have cl : ∀ x : Int, 0 ≤ x → x ≤ 1000 → min (max x 0) 1000 = x := fun x h1 h2 => by omega
  go_enter Try.func4, Try.ntmps4
  go_wp2_with fail
  refine (c0 _).mono ?_
  rintro e w1 ⟨rfl, g⟩
  go_wp2_with fail
  refine (cK _).mono ?_
  rintro e w2 ⟨v1, rfl, hv1, q2⟩
  obtain ⟨oo1, nn1, pp1, rfl⟩ := hv1.form
  replace g := g.trans q2.b
  go_wp2_with fail
  refine (cW _ (HV.out.keepB g)).mono ?_
  rintro e w3 ⟨v2, l, rfl, hl, hr, g2⟩
  obtain ⟨oo2, nn2, pp2, rfl⟩ := hl.form
  replace g := g.trans g2
  have T0 := fun t => twoS_new w3 t (.slice oo1 nn1 pp1) (.slice oo2 nn2 pp2) lk l (hv1.keepB g2) hl rK hr
  clear g2 cW c0 HV cK q2 hv1 hl hr rK
  go_wp2
  have T2 := T0 22
  clear T0
  replace g := g.alloc #[.slice oo1 nn1 pp1, .slice oo2 nn2 pp2] 22
  generalize w3.alloc (.cells #[.slice oo1 nn1 pp1, .slice oo2 nn2 pp2] 22) = W1 at *
  generalize w3.heap.size = bb at *
  go_loopw [32] (fun i wr => ∃ m : Nat, m ≤ 2 ∧ i = .int .i64 m ∧ B W1 wr) (fun i _ => 2 - (intOf i).toNat)
  case atStart => exact ⟨0, Nat.zero_le _, rfl, B.refl _⟩
  case round =>
    obtain ⟨m, hm, rfl, gW⟩ := hrel
    by_cases hm2 : m < 2
    · have hmB : decide ((m : Int) < 2) = true := decide_eq_true (by omega)
      obtain ⟨vs, ls, hc, hsecs, hrs⟩ := (T2.keep gW) m hm2
      obtain ⟨os, ns, ps, rfl⟩ := hsecs.form
      have cO := fun w h => c.yes (.slice os ns ps) ls w h hrs
      have hb := tbnd_of hrs
      generalize slAll ls = L at *
      go_wp2_with fail
      refine (cO _ hsecs).mono ?_
      rintro e w4 ⟨pt, rfl, ht, h⟩
      have g := gW.trans h
      clear h cO hsecs hc gW
      go_wp2
      obtain ⟨wo, rfl⟩ : ∃ wo : World, wo = wr := ⟨_, rfl⟩
      have c3 := fun v w h => c.slices v L w hb h
      go_loopw [17] (fun i wr => ∃ j : Nat, j ≤ L.length ∧ i = .int .i64 ((j : Int) + 1) ∧ T wr (.pointer (some pt)) L ∧ B W1 wr) (fun i _ => L.length + 1 - (intOf i).toNat)
      case atStart => exact ⟨0, Nat.zero_le _, rfl, ht, g⟩
      case round =>
        clear ht g
        obtain ⟨j, hj, rfl, ht, g⟩ := hrel
        have hn6 := hb.n
        by_cases hjl : j < L.length
        · have hjB : decide ((j : Int) + 1 ≤ (L.length : Int)) = true := decide_eq_true (by omega)
          have hj1 : (j : Int) + 1 - 1 = (j : Int) := by omega
          have hrise := table_rise hb.b j hjl
          have hbd := hb.at (j + 1) (by omega)
          have hbd0 := hb.at j (by omega)
          have e1 : nearI L.length ((j : Int) + 1) = j + 1 := by unfold nearI; omega
          have e0 : nearI L.length (j : Int) = j := nearI_of _ _ (by omega)
          have cL1 := fun v w h => c.low v L ((j : Int) + 1) w hb (by unfold I64; omega) h
          have cL0 := fun v w h => c.low v L (j : Int) w hb (by unfold I64; omega) h
          have cH1 := fun v w h => c.high v L ((j : Int) + 1) w hb (by unfold I64; omega) h
          have cH0 := fun v w h => c.high v L (j : Int) w hb (by unfold I64; omega) h
          have cTa := fun v w h => c.tru v L ((j : Int) + 1) m1 w hb (by unfold I64; omega) (by unfold I64; omega) h
          have cTb := fun v w h => c.tru v L ((j : Int) + 1) m2 w hb (by unfold I64; omega) (by unfold I64; omega) h
          have cTp := fun v w h => c.tru v L ((j : Int) + 1) p w hb (by unfold I64; omega) (by unfold I64; omega) h
          have cTo := fun v w h => c.tru v L (j : Int) p w hb (by unfold I64; omega) (by unfold I64; omega) h
          rw [e1] at cL1 cH1 cTa cTb cTp
          rw [e0] at cL0 cH0 cTo
          rw [cl m1 (by omega) (by omega)] at cTa
          rw [cl m2 (by omega) (by omega)] at cTb
          rw [cl p (by omega) (by omega)] at cTp cTo
          have ta := true_between hbd.2.1 m1b.1 (show m1 ≤ 1000 by omega)
          have tb := true_between hbd.2.1 (show 0 ≤ m2 by omega) m1b.2.2
          have tab := true_parts hbd.2.1 m1b.2.1
          have tpo := true_rise hrise.1 (Int.le_of_lt hrise.2) pb.1 pb.2
          generalize lowT L (j + 1) = X1 at *
          generalize lowT L j = X0 at *
          generalize highT L (j + 1) = Y1 at *
          generalize highT L j = Y0 at *
          generalize trueM X1 Y1 m1 = ta' at *
          generalize trueM X1 Y1 m2 = tb' at *
          generalize trueM X1 Y1 p = tp1 at *
          generalize trueM X0 Y0 p = tp0 at *
          have d1 : decide (X1 < X0) = false := decide_eq_false (by omega)
          have d2 : decide (Y1 ≤ Y0) = false := decide_eq_false (by omega)
          have d3 : decide (ta' < X1) = false := decide_eq_false (by omega)
          have d4 : decide (tb' < ta') = false := decide_eq_false (by omega)
          have d5 : decide (Y1 < tb') = false := decide_eq_false (by omega)
          have d6 : decide (tp1 < tp0) = false := decide_eq_false (by omega)
          have wj : IntKind.i64.wrap (j : Int) = (j : Int) := wrapI (by omega) (by omega)
          have wj2 : IntKind.i64.wrap ((j : Int) + 1 + 1) = (j : Int) + 1 + 1 := wrapI (by omega) (by omega)
          clear ta tb tab tpo hrise hbd hbd0 e1 e0
          go_wp2_with fail
          refine (c3 _ _ ht).mono ?_
          rintro e wS ⟨rfl, h⟩
          replace g := g.trans h
          replace ht := c.keep ht h
          clear h
          go_wp2_with fail
          refine (cTa _ _ ht).mono ?_
          rintro e wS ⟨rfl, h⟩
          replace g := g.trans h
          replace ht := c.keep ht h
          clear h
          go_wp2_with fail
          refine (cTb _ _ ht).mono ?_
          rintro e wS ⟨rfl, h⟩
          replace g := g.trans h
          replace ht := c.keep ht h
          clear h
          go_wp2_with fail
          refine (cL1 _ _ ht).mono ?_
          rintro e wS ⟨rfl, h⟩
          replace g := g.trans h
          replace ht := c.keep ht h
          clear h
          go_wp2_with fail
          refine (cL0 _ _ ht).mono ?_
          rintro e wS ⟨rfl, h⟩
          replace g := g.trans h
          replace ht := c.keep ht h
          clear h
          go_wp2_with fail
          refine (cH1 _ _ ht).mono ?_
          rintro e wS ⟨rfl, h⟩
          replace g := g.trans h
          replace ht := c.keep ht h
          clear h
          go_wp2_with fail
          refine (cH0 _ _ ht).mono ?_
          rintro e wS ⟨rfl, h⟩
          replace g := g.trans h
          replace ht := c.keep ht h
          clear h
          go_wp2_with fail
          refine (cL1 _ _ ht).mono ?_
          rintro e wS ⟨rfl, h⟩
          replace g := g.trans h
          replace ht := c.keep ht h
          clear h
          go_wp2_with fail
          refine (cH1 _ _ ht).mono ?_
          rintro e wS ⟨rfl, h⟩
          replace g := g.trans h
          replace ht := c.keep ht h
          clear h
          go_wp2_with fail
          refine (cTp _ _ ht).mono ?_
          rintro e wS ⟨rfl, h⟩
          replace g := g.trans h
          replace ht := c.keep ht h
          clear h
          go_wp2_with fail
          refine (cTo _ _ ht).mono ?_
          rintro e wS ⟨rfl, h⟩
          replace g := g.trans h
          replace ht := c.keep ht h
          clear h
          go_wp2
          go_roundw
          case rel => exact ⟨j + 1, by omega, by go_num, ht, g⟩
          case measure => simp [intOf]; omega
        · have hjB : decide ((j : Int) + 1 ≤ (L.length : Int)) = false := decide_eq_false (by omega)
          go_wp2_with fail
          refine (c3 _ _ ht).mono ?_
          rintro e wS ⟨rfl, h⟩
          replace g := g.trans h
          replace ht := c.keep ht h
          clear h
          go_wp2
          go_roundw
          case rel => exact ⟨m + 1, by omega, by go_num, g⟩
          case measure => simp [intOf]; omega
    · have hmB : decide ((m : Int) < 2) = false := decide_eq_false (by omega)
      go_wp2
      go_ret
      exact ⟨rfl, g.trans gW⟩
end Go.Proofs.Ytikdfoeinlnfgaa
