/-
  Layer 5: the walk of LevelEnds.
-/
import Derived.Test.YtbeeaakkgfccfaaL5a
import Derived.Test.YtbeeaakkgfccfaaSeat2
import Derived.Test.YtbeeaakkgfccfaaWf
import Derived.Lib.MinMax
namespace Go.Proofs.Ytbeeaakkgfccfaa
open Go.RowKit

set_option maxRecDepth 100000 in
set_option maxHeartbeats 8000000 in
theorem ends_law {T : World → Value → List (Int × Int) → Prop} (c : TabC T) (lv : LvC T) (lw : VolC T) (k : Int) (v : Value) (n : Nat) (rd : Bool) (part more : Int) (hk : (Lit.int .u8 k).wf = true) (hpart : (Lit.int .u16 part).wf = true) (hmore : (Lit.int .u32 more).wf = true) (w : World) (hv : IsU16 w v n) :
    Calls Try.prog 6 #[.int .u8 k, v, .bool rd, .int .u16 part, .int .u32 more] w fun e w' => e = .returned (.bool true) ∧ B w w' := by
  obtain ⟨k1, k2⟩ := u8_wf hk
  obtain ⟨part1, part2⟩ := u16_wf hpart
  obtain ⟨more1, more2⟩ := u32_wf hmore

  clear hk hpart hmore
  have c0 := fun w => known5_any c lv lw w
  have cW := fun w h => wild_any v n rd w h
  have cK := fun w => shape_any k k1 k2 w
  have rK := shape_right (k % 6).toNat
  generalize shapeOf (k % 6).toNat = lk at *
  obtain ⟨ao, cap0, rfl, hn⟩ := hv.form
  by_cases hn40 : 40 < n
  · have n40 : decide ((40 : Int) < (n : Int)) = true := decide_eq_true (by omega)
    clear hv
    go_enter Try.func6, Try.ntmps6
    go_wp2_with fail
    refine (c0 _).mono ?_
    rintro e w1 ⟨rfl, g⟩
    go_wp2
    go_ret
    exact ⟨rfl, g⟩
  have n40 : decide ((40 : Int) < (n : Int)) = false := decide_eq_false (by omega)
  have HV := Lib.hid hv
  clear hv
  obtain ⟨p, ep⟩ : ∃ z, part % 1001 = z := ⟨_, rfl⟩
  have tp : part.tmod 1001 = p := by rw [Int.tmod_eq_emod_of_nonneg (by omega)]; exact ep
  have bp : 0 ≤ p ∧ p < 1001 := by omega
  have xp : IntKind.i64.wrap p = p := wrapI (by omega) (by omega)
  have yp : IntKind.u16.wrap p = p := wrapU16 (by omega) (by omega)
  have wm : IntKind.i64.wrap more = more := wrapI (by omega) (by omega)
  have wm2 : IntKind.i64.wrap (-more) = -more := wrapI (by omega) (by omega)
  have ip : I64 p := by unfold I64; omega
  go_enter Try.func6, Try.ntmps6
  go_wp2_with fail
  refine (c0 _).mono ?_
  rintro e w1 ⟨rfl, g⟩
  go_wp2_with fail
  refine (cK _).mono ?_
  rintro e w2 ⟨v1, rfl, hv1, q2⟩
  obtain ⟨oo1, nn1, pp1, rfl⟩ := hv1.form
  replace g := g.trans q2.b
  go_wp2_with fail
  refine (cW _ (HV.out.keepB g)).mono ?_
  rintro e w3 ⟨v2, l, rfl, hl, hr, g2⟩
  obtain ⟨oo2, nn2, pp2, rfl⟩ := hl.form
  replace g := g.trans g2
  have T0 := fun t => twoS_new w3 t (.slice oo1 nn1 pp1) (.slice oo2 nn2 pp2) lk l (hv1.keepB g2) hl rK hr
  clear g2 cW c0 HV cK q2 hv1 hl hr rK
  go_wp2
  have T2 := T0 25
  clear T0
  replace g := g.alloc #[.slice oo1 nn1 pp1, .slice oo2 nn2 pp2] 25
  generalize w3.alloc (.cells #[.slice oo1 nn1 pp1, .slice oo2 nn2 pp2] 25) = W1 at *
  generalize w3.heap.size = bb at *
  have G0 := Lib.hid g
  clear g
  go_loopw [31] (fun i wr => ∃ m : Nat, m ≤ 2 ∧ i = .int .i64 m ∧ B W1 wr) (fun i _ => 2 - (intOf i).toNat)
  case atStart => exact ⟨0, Nat.zero_le _, rfl, B.refl _⟩
  case round =>
    obtain ⟨m, hm, rfl, g⟩ := hrel
    by_cases hm2 : m < 2
    · have hmB : decide ((m : Int) < 2) = true := decide_eq_true (by omega)
      obtain ⟨vs, ls, hc, hsecs, hrs⟩ := (T2.keep g) m hm2
      obtain ⟨os, ns, ps, rfl⟩ := hsecs.form
      have cO := fun w h => both_any c (.slice os ns ps) ls w h hrs
      have hb := tbnd_of hrs
      have hL := slAll_pos hrs
      generalize slAll ls = L at *
      go_wp2_with fail
      refine (cO _ hsecs).mono ?_
      rintro e w4 ⟨pt, pw, rfl, ht, hw, h⟩
      replace g := g.trans h
      clear h cO hsecs hc hrs
      have hn6 := hb.n
      have cS := fun w h => r3slices_any pw L hb.n w h
      have cR : ∀ w, RTab w pw L → Calls Try.prog 23 #[pw, .int .i64 L.length, .int .i64 p] w fun e w' => e = .returned (.int .i64 (trI L p L.length)) ∧ B w w' := fun w h => by
        have := r3true_any pw L hb L.length p w h
        rw [nearI_of _ _ (Nat.le_refl _)] at this
        exact this.mono fun _ _ h => ⟨h.1, h.2.q.b⟩
      have cT := fun w h => c.tall (.pointer (some pt)) L w hb h
      obtain ⟨r1, r2, r3, r4, r5, r6, r7⟩ := lv_ends hb hL p more more1
      have bt := trI_bnd hb p L.length (Nat.le_refl _)
      have bl := hb.at L.length (Nat.le_refl _)
      generalize trI L p L.length = X at *
      obtain ⟨s1, es1⟩ : ∃ z, X + 999999 = z := ⟨_, rfl⟩
      have ws1 : IntKind.i64.wrap (X + 999999) = s1 := by rw [es1]; exact wrapI (by omega) (by omega)
      have ts1 : s1.tdiv 1000000 = s1 / 1000000 := Int.tdiv_eq_ediv_of_nonneg (by omega)
      have tX : X.tdiv 1000000 = X / 1000000 := Int.tdiv_eq_ediv_of_nonneg (by omega)
      rw [es1] at r6 r7
      obtain ⟨full, ef⟩ : ∃ z, s1 / 1000000 = z := ⟨_, rfl⟩
      obtain ⟨brim, eb⟩ : ∃ z, X / 1000000 = z := ⟨_, rfl⟩
      rw [ef] at r6 r7 ts1
      rw [eb] at r5 tX
      have wf : IntKind.i64.wrap full = full := wrapI (by omega) (by omega)
      have wbr : IntKind.i64.wrap brim = brim := wrapI (by omega) (by omega)
      obtain ⟨f1, ef1⟩ : ∃ z, full + 1 = z := ⟨_, rfl⟩
      obtain ⟨f2, ef2⟩ : ∃ z, f1 + more = z := ⟨_, rfl⟩
      obtain ⟨f3, ef3⟩ : ∃ z, full + 100000000 = z := ⟨_, rfl⟩
      have wf1 : IntKind.i64.wrap (full + 1) = f1 := by rw [ef1]; exact wrapI (by omega) (by omega)
      have wf2 : IntKind.i64.wrap (f1 + more) = f2 := by rw [ef2]; exact wrapI (by omega) (by omega)
      have wf3 : IntKind.i64.wrap (full + 100000000) = f3 := by rw [ef3]; exact wrapI (by omega) (by omega)
      rw [ef1, ef2] at r6
      rw [ef3] at r7
      have c1 := fun w h => lv.low (.pointer (some pt)) L 0 w hb (by unfold I64; omega) h
      have c2 := fun w h => lv.high (.pointer (some pt)) L 0 w hb (by unfold I64; omega) h
      have c3 := fun w h => lv.tru (.pointer (some pt)) L 0 p w hb (by unfold I64; omega) ip h
      have c4 := fun w h => lv.tru (.pointer (some pt)) L (-more) p w hb (by unfold I64; omega) ip h
      have c5 := fun w h => lv.tru (.pointer (some pt)) L brim p w hb (by unfold I64; omega) ip h
      have c6 := fun w h => lv.tru (.pointer (some pt)) L f2 p w hb (by unfold I64; omega) ip h
      have c7 := fun w h => lv.low (.pointer (some pt)) L f3 w hb (by unfold I64; omega) h
      rw [r1] at c1
      rw [r2] at c2
      rw [r3] at c3
      rw [r4] at c4
      obtain ⟨N, eN⟩ : ∃ N, (L.length : Int) * 100 = N := ⟨_, rfl⟩
      rw [show 100 * (L.length : Int) = N by omega] at r5 r6 r7
      rw [eN] at cT
      rw [r6] at c6
      rw [r7] at c7
      have wN : IntKind.i64.wrap (N + 1) = N + 1 := wrapI (by omega) (by omega)
      generalize lvTrue L brim p = A at *
      have d1 : decide (N < A) = false := decide_eq_false (by omega)
      clear r1 r2 r3 r4 r5 r6 r7 bt bl es1 ef eb ef1 ef2 ef3
      have ht : T w4 (.pointer (some pt)) L := ht
      go_wp2_with fail
      refine (cS _ hw).mono ?_
      rintro e wS ⟨rfl, rfl⟩
      go_wp2_with fail
      refine (cR _ hw).mono ?_
      rintro e wS ⟨rfl, q⟩
      replace g := g.trans q
      replace ht := c.keep ht q
      replace hw := hw.keepB q
      clear q
      go_wp2_with fail
      refine (cS _ hw).mono ?_
      rintro e wS ⟨rfl, rfl⟩
      go_wp2_with fail
      refine (cR _ hw).mono ?_
      rintro e wS ⟨rfl, q⟩
      replace g := g.trans q
      replace ht := c.keep ht q
      replace hw := hw.keepB q
      clear q
      go_wp2_with fail
      refine (c1 _ ht).mono ?_
      rintro e wS ⟨rfl, q⟩
      replace g := g.trans q
      replace ht := c.keep ht q
      clear q
      go_wp2_with fail
      refine (c2 _ ht).mono ?_
      rintro e wS ⟨rfl, q⟩
      replace g := g.trans q
      replace ht := c.keep ht q
      clear q
      go_wp2_with fail
      refine (c3 _ ht).mono ?_
      rintro e wS ⟨rfl, q⟩
      replace g := g.trans q
      replace ht := c.keep ht q
      clear q
      go_wp2_with fail
      refine (c4 _ ht).mono ?_
      rintro e wS ⟨rfl, q⟩
      replace g := g.trans q
      replace ht := c.keep ht q
      clear q
      go_wp2_with fail
      refine (c5 _ ht).mono ?_
      rintro e wS ⟨rfl, q⟩
      replace g := g.trans q
      replace ht := c.keep ht q
      clear q
      go_wp2_with fail
      refine (cT _ ht).mono ?_
      rintro e wS ⟨rfl, q⟩
      replace g := g.trans q
      replace ht := c.keep ht q
      clear q
      go_wp2_with fail
      refine (c6 _ ht).mono ?_
      rintro e wS ⟨rfl, q⟩
      replace g := g.trans q
      replace ht := c.keep ht q
      clear q
      go_wp2_with fail
      refine (cT _ ht).mono ?_
      rintro e wS ⟨rfl, q⟩
      replace g := g.trans q
      replace ht := c.keep ht q
      clear q
      go_wp2_with fail
      refine (c7 _ ht).mono ?_
      rintro e wS ⟨rfl, q⟩
      replace g := g.trans q
      replace ht := c.keep ht q
      clear q
      go_wp2_with fail
      refine (cT _ ht).mono ?_
      rintro e wS ⟨rfl, q⟩
      replace g := g.trans q
      replace ht := c.keep ht q
      clear q
      go_wp2
      go_roundw
      case rel => exact ⟨m + 1, by omega, by go_num, g⟩
      case measure => simp [intOf]; omega
    · have hmB : decide ((m : Int) < 2) = false := decide_eq_false (by omega)
      replace g := G0.out.trans g
      go_wp2
      go_ret
      exact ⟨rfl, g⟩
end Go.Proofs.Ytbeeaakkgfccfaa
