/-
  Layer 5: the walk of LevelParts.
-/
import Derived.Test.YtbeeaakkgfccfaaL5a
import Derived.Test.YtbeeaakkgfccfaaSeat2
import Derived.Test.YtbeeaakkgfccfaaWf
import Derived.Lib.MinMax
namespace Go.Proofs.Ytbeeaakkgfccfaa
open Go.RowKit

set_option maxRecDepth 100000 in
set_option maxHeartbeats 8000000 in
theorem parts_law {T : World → Value → List (Int × Int) → Prop} (c : TabC T) (lv : LvC T) (lw : VolC T) (k : Int) (v : Value) (n : Nat) (rd : Bool) (nn p q : Int) (hk : (Lit.int .u8 k).wf = true) (hnn : (Lit.int .u32 nn).wf = true) (hp : (Lit.int .u16 p).wf = true) (hq : (Lit.int .u16 q).wf = true) (w : World) (hv : IsU16 w v n) :
    Calls Try.prog 8 #[.int .u8 k, v, .bool rd, .int .u32 nn, .int .u16 p, .int .u16 q] w fun e w' => e = .returned (.bool true) ∧ B w w' := by
  obtain ⟨k1, k2⟩ := u8_wf hk
  obtain ⟨nn1, nn2⟩ := u32_wf hnn
  obtain ⟨p1, p2⟩ := u16_wf hp
  obtain ⟨q1, q2⟩ := u16_wf hq

  clear hk hnn hp hq
  have c0 := fun w => known5_any c lv lw w
  have cW := fun w h => wild_any v n rd w h
  have cK := fun w => shape_any k k1 k2 w
  have rK := shape_right (k % 6).toNat
  generalize shapeOf (k % 6).toNat = lk at *
  obtain ⟨ao, cap0, rfl, hn⟩ := hv.form
  by_cases hn40 : 40 < n
  · have n40 : decide ((40 : Int) < (n : Int)) = true := decide_eq_true (by omega)
    clear hv
    go_enter Try.func8, Try.ntmps8
    go_wp2_with fail
    refine (c0 _).mono ?_
    rintro e w1 ⟨rfl, g⟩
    go_wp2
    go_ret
    exact ⟨rfl, g⟩
  have n40 : decide ((40 : Int) < (n : Int)) = false := decide_eq_false (by omega)
  have HV := Lib.hid hv
  clear hv
  obtain ⟨pp, epp⟩ : ∃ z, p % 1001 = z := ⟨_, rfl⟩
  have tpp : p.tmod 1001 = pp := by rw [Int.tmod_eq_emod_of_nonneg (by omega)]; exact epp
  have bpp : 0 ≤ pp ∧ pp < 1001 := by omega
  have xpp : IntKind.i64.wrap pp = pp := wrapI (by omega) (by omega)
  have ypp : IntKind.u16.wrap pp = pp := wrapU16 (by omega) (by omega)
  obtain ⟨qq, eqq⟩ : ∃ z, q % 1001 = z := ⟨_, rfl⟩
  have tqq : q.tmod 1001 = qq := by rw [Int.tmod_eq_emod_of_nonneg (by omega)]; exact eqq
  have bqq : 0 ≤ qq ∧ qq < 1001 := by omega
  have xqq : IntKind.i64.wrap qq = qq := wrapI (by omega) (by omega)
  have yqq : IntKind.u16.wrap qq = qq := wrapU16 (by omega) (by omega)
  obtain ⟨x, ex⟩ : ∃ z, nn % 300000 = z := ⟨_, rfl⟩
  have tx : nn.tmod 300000 = x := by rw [Int.tmod_eq_emod_of_nonneg (by omega)]; exact ex
  have bx : 0 ≤ x ∧ x < 300000 := by omega
  have xx : IntKind.i64.wrap x = x := wrapI (by omega) (by omega)
  have yx : IntKind.u32.wrap x = x := wrapU32 (by omega) (by omega)
  obtain ⟨a, ea⟩ : ∃ m, min pp qq = m := ⟨_, rfl⟩
  obtain ⟨b, eb⟩ : ∃ m, max pp qq = m := ⟨_, rfl⟩
  have wa : IntKind.i64.wrap a = a := wrapI (by omega) (by omega)
  have wb : IntKind.i64.wrap b = b := wrapI (by omega) (by omega)
  have hab : a ≤ b := by omega
  go_enter Try.func8, Try.ntmps8
  go_wp2_with fail
  refine (c0 _).mono ?_
  rintro e w1 ⟨rfl, g⟩
  go_wp2_with fail
  refine (cK _).mono ?_
  rintro e w2 ⟨v1, rfl, hv1, q2⟩
  obtain ⟨oo1, nn1, pp1, rfl⟩ := hv1.form
  replace g := g.trans q2.b
  go_wp2_with fail
  refine (cW _ (HV.out.keepB g)).mono ?_
  rintro e w3 ⟨v2, l, rfl, hl, hr, g2⟩
  obtain ⟨oo2, nn2, pp2, rfl⟩ := hl.form
  replace g := g.trans g2
  have T0 := fun t => twoS_new w3 t (.slice oo1 nn1 pp1) (.slice oo2 nn2 pp2) lk l (hv1.keepB g2) hl rK hr
  clear g2 cW c0 HV cK q2 hv1 hl hr rK
  go_wp2
  have T2 := T0 25
  clear T0
  replace g := g.alloc #[.slice oo1 nn1 pp1, .slice oo2 nn2 pp2] 25
  generalize w3.alloc (.cells #[.slice oo1 nn1 pp1, .slice oo2 nn2 pp2] 25) = W1 at *
  generalize w3.heap.size = bb at *
  have G0 := Lib.hid g
  clear g
  go_loopw [33] (fun i wr => ∃ m : Nat, m ≤ 2 ∧ i = .int .i64 m ∧ B W1 wr) (fun i _ => 2 - (intOf i).toNat)
  case atStart => exact ⟨0, Nat.zero_le _, rfl, B.refl _⟩
  case round =>
    obtain ⟨m, hm, rfl, g⟩ := hrel
    by_cases hm2 : m < 2
    · have hmB : decide ((m : Int) < 2) = true := decide_eq_true (by omega)
      obtain ⟨vs, ls, hc, hsecs, hrs⟩ := (T2.keep g) m hm2
      obtain ⟨os, ns, ps, rfl⟩ := hsecs.form
      have cO := fun w h => both_any c (.slice os ns ps) ls w h hrs
      have hb := tbnd_of hrs
      have hL := slAll_pos hrs
      generalize slAll ls = L at *
      go_wp2_with fail
      refine (cO _ hsecs).mono ?_
      rintro e w4 ⟨pt, pw, rfl, ht, hw, h⟩
      replace g := g.trans h
      clear h cO hsecs hc hrs
      have cb := fun w h => lv.tru (.pointer (some pt)) L x b w hb (by unfold I64; omega) (by unfold I64; omega) h
      have ca := fun w h => lv.tru (.pointer (some pt)) L x a w hb (by unfold I64; omega) (by unfold I64; omega) h
      have hp := lvTrue_parts hb x hab
      have b1 := lvTrue_bnd L x a
      have b2 := lvTrue_bnd L x b
      have hn6 := hb.n
      generalize lvTrue L x a = A at *
      generalize lvTrue L x b = D at *
      have w1 : IntKind.i64.wrap (A + 100) = A + 100 := wrapI (by omega) (by omega)
      have d1 : decide (A + 100 < D) = false := decide_eq_false (by omega)
      clear hp b1 b2
      go_wp2_with fail
      refine (cb _ ht).mono ?_
      rintro e wS ⟨rfl, q⟩
      replace g := g.trans q
      replace ht := c.keep ht q
      clear q
      go_wp2_with fail
      refine (ca _ ht).mono ?_
      rintro e wS ⟨rfl, q⟩
      replace g := g.trans q
      replace ht := c.keep ht q
      clear q
      go_wp2
      go_roundw
      case rel => exact ⟨m + 1, by omega, by go_num, g⟩
      case measure => simp [intOf]; omega
    · have hmB : decide ((m : Int) < 2) = false := decide_eq_false (by omega)
      replace g := G0.out.trans g
      go_wp2
      go_ret
      exact ⟨rfl, g⟩
end Go.Proofs.Ytbeeaakkgfccfaa
