/-
  Layer 5: the walk of LevelBack.
-/
import Derived.Test.YtbeeaakkgfccfaaL5a
import Derived.Test.YtbeeaakkgfccfaaSeat2
import Derived.Test.YtbeeaakkgfccfaaWf
import Derived.Lib.MinMax
namespace Go.Proofs.Ytbeeaakkgfccfaa
open Go.RowKit

set_option maxRecDepth 100000 in
set_option maxHeartbeats 8000000 in
theorem back_law {T : World → Value → List (Int × Int) → Prop} (c : TabC T) (lv : LvC T) (lw : VolC T) (k : Int) (v : Value) (n : Nat) (rd : Bool) (at_ : Int) (hk : (Lit.int .u8 k).wf = true) (hat_ : (Lit.int .u16 at_).wf = true) (w : World) (hv : IsU16 w v n) :
    Calls Try.prog 5 #[.int .u8 k, v, .bool rd, .int .u16 at_] w fun e w' => e = .returned (.bool true) ∧ B w w' := by
  obtain ⟨k1, k2⟩ := u8_wf hk
  obtain ⟨at_1, at_2⟩ := u16_wf hat_

  clear hk hat_
  have c0 := fun w => known5_any c lv lw w
  have cW := fun w h => wild_any v n rd w h
  have cK := fun w => shape_any k k1 k2 w
  have rK := shape_right (k % 6).toNat
  generalize shapeOf (k % 6).toNat = lk at *
  obtain ⟨ao, cap0, rfl, hn⟩ := hv.form
  by_cases hn40 : 40 < n
  · have n40 : decide ((40 : Int) < (n : Int)) = true := decide_eq_true (by omega)
    clear hv
    go_enter Try.func5, Try.ntmps5
    go_wp2_with fail
    refine (c0 _).mono ?_
    rintro e w1 ⟨rfl, g⟩
    go_wp2
    go_ret
    exact ⟨rfl, g⟩
  have n40 : decide ((40 : Int) < (n : Int)) = false := decide_eq_false (by omega)
  have HV := Lib.hid hv
  clear hv
  have wat : IntKind.i64.wrap at_ = at_ := wrapI (by omega) (by omega)
  obtain ⟨h0, e0⟩ : ∃ z, at_ * 100 = z := ⟨_, rfl⟩
  have w0 : IntKind.i64.wrap (at_ * 100) = h0 := by rw [e0]; exact wrapI (by omega) (by omega)
  go_enter Try.func5, Try.ntmps5
  go_wp2_with fail
  refine (c0 _).mono ?_
  rintro e w1 ⟨rfl, g⟩
  go_wp2_with fail
  refine (cK _).mono ?_
  rintro e w2 ⟨v1, rfl, hv1, q2⟩
  obtain ⟨oo1, nn1, pp1, rfl⟩ := hv1.form
  replace g := g.trans q2.b
  go_wp2_with fail
  refine (cW _ (HV.out.keepB g)).mono ?_
  rintro e w3 ⟨v2, l, rfl, hl, hr, g2⟩
  obtain ⟨oo2, nn2, pp2, rfl⟩ := hl.form
  replace g := g.trans g2
  have T0 := fun t => twoS_new w3 t (.slice oo1 nn1 pp1) (.slice oo2 nn2 pp2) lk l (hv1.keepB g2) hl rK hr
  clear g2 cW c0 HV cK q2 hv1 hl hr rK
  go_wp2
  have T2 := T0 25
  clear T0
  replace g := g.alloc #[.slice oo1 nn1 pp1, .slice oo2 nn2 pp2] 25
  generalize w3.alloc (.cells #[.slice oo1 nn1 pp1, .slice oo2 nn2 pp2] 25) = W1 at *
  generalize w3.heap.size = bb at *
  have G0 := Lib.hid g
  clear g
  go_loopw [27] (fun i wr => ∃ m : Nat, m ≤ 2 ∧ i = .int .i64 m ∧ B W1 wr) (fun i _ => 2 - (intOf i).toNat)
  case atStart => exact ⟨0, Nat.zero_le _, rfl, B.refl _⟩
  case round =>
    obtain ⟨m, hm, rfl, g⟩ := hrel
    by_cases hm2 : m < 2
    · have hmB : decide ((m : Int) < 2) = true := decide_eq_true (by omega)
      obtain ⟨vs, ls, hc, hsecs, hrs⟩ := (T2.keep g) m hm2
      obtain ⟨os, ns, ps, rfl⟩ := hsecs.form
      have cO := fun w h => both_any c (.slice os ns ps) ls w h hrs
      have hb := tbnd_of hrs
      have hL := slAll_pos hrs
      generalize slAll ls = L at *
      go_wp2_with fail
      refine (cO _ hsecs).mono ?_
      rintro e w4 ⟨pt, pw, rfl, ht, hw, h⟩
      replace g := g.trans h
      clear h cO hsecs hc hrs
      have hn6 := hb.n
      obtain ⟨N, eN⟩ : ∃ N, (L.length : Int) * 100 = N := ⟨_, rfl⟩
      obtain ⟨M, eM⟩ : ∃ M, N + 100 = M := ⟨_, rfl⟩
      have wM : IntKind.i64.wrap (N + 100) = M := by rw [eM]; exact wrapI (by omega) (by omega)
      have hM0 : ¬ M = 0 := by omega
      obtain ⟨kk, ek⟩ : ∃ z : Nat, (at_ % ((L.length : Int) + 1)).toNat = z := ⟨_, rfl⟩
      have hr0 := Int.emod_nonneg at_ (show (L.length : Int) + 1 ≠ 0 by omega)
      have hr1 := Int.emod_lt_of_pos at_ (show 0 < (L.length : Int) + 1 by omega)
      have hk : kk ≤ L.length := by omega
      have hmod : h0.tmod M = 100 * (kk : Int) := by
        rw [Int.tmod_eq_emod_of_nonneg (by omega), ← e0, ← eM, ← eN, show (L.length : Int) * 100 + 100 = ((L.length : Int) + 1) * 100 by omega, Int.mul_comm at_, Int.mul_comm _ 100, Int.mul_emod_mul_of_pos _ _ (by omega)]
        omega
      have cT := fun w h => c.tall (.pointer (some pt)) L w hb h
      rw [eN] at cT
      have reach := vol_reach hb kk hk
      obtain ⟨hh, ehh⟩ : ∃ z, 100 * (kk : Int) = z := ⟨_, rfl⟩
      rw [ehh] at hmod reach
      have wmod : IntKind.i64.wrap hh = hh := wrapI (by omega) (by omega)
      have c1 := fun w h => lw.vol (.pointer (some pt)) L hh true w hb (by unfold I64; omega) h
      have c2 := fun w h => lw.vol (.pointer (some pt)) L hh false w hb (by unfold I64; omega) h
      have b1 := lvVol_bnd hb hh true
      have b2 := lvVol_bnd hb hh false
      generalize lvVol L hh true = V1 at *
      generalize lvVol L hh false = V2 at *
      have c3 := fun w h => lv.low (.pointer (some pt)) L V1 w hb (by unfold I64; omega) h
      have c4 := fun w h => lv.high (.pointer (some pt)) L V2 w hb (by unfold I64; omega) h
      obtain ⟨mn, emn⟩ : ∃ z, min hh N = z := ⟨_, rfl⟩
      generalize lvLow L V1 = A at *
      generalize lvHigh L V2 = D at *
      have d1 : decide (A < mn) = false := decide_eq_false (by omega)
      have d2 : decide (hh < D) = false := decide_eq_false (by omega)
      clear reach b1 b2 hr0 hr1 ek ehh eN eM
      go_wp2_with fail
      refine (cT _ ht).mono ?_
      rintro e wS ⟨rfl, q⟩
      replace g := g.trans q
      replace ht := c.keep ht q
      clear q
      go_wp2_with fail
      refine (c1 _ ht).mono ?_
      rintro e wS ⟨rfl, q⟩
      replace g := g.trans q
      replace ht := c.keep ht q
      clear q
      go_wp2_with fail
      refine (c3 _ ht).mono ?_
      rintro e wS ⟨rfl, q⟩
      replace g := g.trans q
      replace ht := c.keep ht q
      clear q
      go_wp2_with fail
      refine (cT _ ht).mono ?_
      rintro e wS ⟨rfl, q⟩
      replace g := g.trans q
      replace ht := c.keep ht q
      clear q
      go_wp2_with fail
      refine (c2 _ ht).mono ?_
      rintro e wS ⟨rfl, q⟩
      replace g := g.trans q
      replace ht := c.keep ht q
      clear q
      go_wp2_with fail
      refine (c4 _ ht).mono ?_
      rintro e wS ⟨rfl, q⟩
      replace g := g.trans q
      replace ht := c.keep ht q
      clear q
      go_wp2
      go_roundw
      case rel => exact ⟨m + 1, by omega, by go_num, g⟩
      case measure => simp [intOf]; omega
    · have hmB : decide ((m : Int) < 2) = false := decide_eq_false (by omega)
      replace g := G0.out.trans g
      go_wp2
      go_ret
      exact ⟨rfl, g⟩
end Go.Proofs.Ytbeeaakkgfccfaa
