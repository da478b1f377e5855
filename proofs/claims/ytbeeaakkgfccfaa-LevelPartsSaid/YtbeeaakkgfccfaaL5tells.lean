/-
  Layer 5: the walk of LevelTells.
-/
import Derived.Test.YtbeeaakkgfccfaaL5a
import Derived.Test.YtbeeaakkgfccfaaSeat2
import Derived.Test.YtbeeaakkgfccfaaWf
import Derived.Lib.MinMax
namespace Go.Proofs.Ytbeeaakkgfccfaa
open Go.RowKit

set_option maxRecDepth 100000 in
set_option maxHeartbeats 8000000 in
theorem lvtells_law {T : World → Value → List (Int × Int) → Prop} (c : TabC T) (lv : LvC T) (lw : VolC T) (nl : LvN) (k : Int) (v : Value) (n : Nat) (rd : Bool) (vv part hh nn : Int) (hk : (Lit.int .u8 k).wf = true) (hvv : (Lit.int .i64 vv).wf = true) (hpart : (Lit.int .i64 part).wf = true) (hhh : (Lit.int .i64 hh).wf = true) (hnn : (Lit.int .u32 nn).wf = true) (w : World) (hv : IsU16 w v n) :
    Calls Try.prog 3 #[.int .u8 k, v, .bool rd, .int .i64 vv, .int .i64 part, .int .i64 hh, .int .u32 nn] w fun e w' => e = .returned (.bool true) ∧ B w w' := by
  obtain ⟨k1, k2⟩ := u8_wf hk
  obtain ⟨vv1, vv2⟩ := i64_wf hvv
  obtain ⟨part1, part2⟩ := i64_wf hpart
  obtain ⟨hh1, hh2⟩ := i64_wf hhh
  obtain ⟨nn1, nn2⟩ := u32_wf hnn

  clear hk hvv hpart hhh hnn
  have c0 := fun w => known5_any c lv lw w
  have cW := fun w h => wild_any v n rd w h
  have cK := fun w => shape_any k k1 k2 w
  have rK := shape_right (k % 6).toNat
  generalize shapeOf (k % 6).toNat = lk at *
  obtain ⟨ao, cap0, rfl, hn⟩ := hv.form
  by_cases hn40 : 40 < n
  · have n40 : decide ((40 : Int) < (n : Int)) = true := decide_eq_true (by omega)
    clear hv
    go_enter Try.func3, Try.ntmps3
    go_wp2_with fail
    refine (c0 _).mono ?_
    rintro e w1 ⟨rfl, g⟩
    go_wp2
    go_ret
    exact ⟨rfl, g⟩
  have n40 : decide ((40 : Int) < (n : Int)) = false := decide_eq_false (by omega)
  have HV := Lib.hid hv
  clear hv
  obtain ⟨x1, ex1⟩ : ∃ z, nn % 500000 = z := ⟨_, rfl⟩
  have tx1 : nn.tmod 500000 = x1 := by rw [Int.tmod_eq_emod_of_nonneg (by omega)]; exact ex1
  have bx1 : 0 ≤ x1 ∧ x1 < 500000 := by omega
  have xx1 : IntKind.i64.wrap x1 = x1 := wrapI (by omega) (by omega)
  have yx1 : IntKind.u32.wrap x1 = x1 := wrapU32 (by omega) (by omega)
  obtain ⟨x2, ex2⟩ : ∃ z, nn % 3000000 = z := ⟨_, rfl⟩
  have tx2 : nn.tmod 3000000 = x2 := by rw [Int.tmod_eq_emod_of_nonneg (by omega)]; exact ex2
  have bx2 : 0 ≤ x2 ∧ x2 < 3000000 := by omega
  have xx2 : IntKind.i64.wrap x2 = x2 := wrapI (by omega) (by omega)
  have yx2 : IntKind.u32.wrap x2 = x2 := wrapU32 (by omega) (by omega)
  obtain ⟨x3, ex3⟩ : ∃ z, nn % 40 = z := ⟨_, rfl⟩
  have tx3 : nn.tmod 40 = x3 := by rw [Int.tmod_eq_emod_of_nonneg (by omega)]; exact ex3
  have bx3 : 0 ≤ x3 ∧ x3 < 40 := by omega
  have xx3 : IntKind.i64.wrap x3 = x3 := wrapI (by omega) (by omega)
  have yx3 : IntKind.u32.wrap x3 = x3 := wrapU32 (by omega) (by omega)
  obtain ⟨pp, epp⟩ : ∃ z, nn % 1001 = z := ⟨_, rfl⟩
  have tpp : nn.tmod 1001 = pp := by rw [Int.tmod_eq_emod_of_nonneg (by omega)]; exact epp
  have bpp : 0 ≤ pp ∧ pp < 1001 := by omega
  have xpp : IntKind.i64.wrap pp = pp := wrapI (by omega) (by omega)
  have ypp : IntKind.u32.wrap pp = pp := wrapU32 (by omega) (by omega)
  obtain ⟨h1, eh1⟩ : ∃ z, nn % 30000 = z := ⟨_, rfl⟩
  have th1 : nn.tmod 30000 = h1 := by rw [Int.tmod_eq_emod_of_nonneg (by omega)]; exact eh1
  have bh1 : 0 ≤ h1 ∧ h1 < 30000 := by omega
  have xh1 : IntKind.i64.wrap h1 = h1 := wrapI (by omega) (by omega)
  have yh1 : IntKind.u32.wrap h1 = h1 := wrapU32 (by omega) (by omega)
  obtain ⟨h2, eh2⟩ : ∃ z, nn % 300 = z := ⟨_, rfl⟩
  have th2 : nn.tmod 300 = h2 := by rw [Int.tmod_eq_emod_of_nonneg (by omega)]; exact eh2
  have bh2 : 0 ≤ h2 ∧ h2 < 300 := by omega
  have xh2 : IntKind.i64.wrap h2 = h2 := wrapI (by omega) (by omega)
  have yh2 : IntKind.u32.wrap h2 = h2 := wrapU32 (by omega) (by omega)
  have iv : I64 vv := by unfold I64; omega
  have ipt : I64 part := by unfold I64; omega
  have ipp : I64 pp := by unfold I64; omega
  have ihh : I64 hh := by unfold I64; omega
  obtain ⟨xs, exs⟩ : ∃ xs : Nat → Int, xs = fun m => [vv, x1, x2, x3, 0].getD m 0 := ⟨_, rfl⟩
  have ixs : ∀ m, m < 5 → I64 (xs m) := fun m hm => by
    subst exs
    match m, hm with
    | 0, _ => exact iv
    | 1, _ => show I64 x1; unfold I64; omega
    | 2, _ => show I64 x2; unfold I64; omega
    | 3, _ => show I64 x3; unfold I64; omega
    | 4, _ => show I64 0; unfold I64; omega
  obtain ⟨hs, ehs⟩ : ∃ xs : Nat → Int, xs = fun m => [hh, h1, h2].getD m 0 := ⟨_, rfl⟩
  have ihs : ∀ m, m < 3 → I64 (hs m) := fun m hm => by
    subst ehs
    match m, hm with
    | 0, _ => exact ihh
    | 1, _ => show I64 h1; unfold I64; omega
    | 2, _ => show I64 h2; unfold I64; omega
  have nums5 : ∀ (w : World) (t : TypeId) m, m < 5 → (w.alloc (.cells #[.int .i64 vv, .int .i64 x1, .int .i64 x2, .int .i64 x3, .int .i64 0] t)).cell? ⟨w.heap.size, m, none⟩ = some (.int .i64 (xs m)) := fun w t m hm => by
    subst exs
    rw [World.cell?_alloc_new]
    match m, hm with
    | 0, _ => rfl
    | 1, _ => rfl
    | 2, _ => rfl
    | 3, _ => rfl
    | 4, _ => rfl
  have nums3 : ∀ (w : World) (t : TypeId) m, m < 3 → (w.alloc (.cells #[.int .i64 hh, .int .i64 h1, .int .i64 h2] t)).cell? ⟨w.heap.size, m, none⟩ = some (.int .i64 (hs m)) := fun w t m hm => by
    subst ehs
    rw [World.cell?_alloc_new]
    match m, hm with
    | 0, _ => rfl
    | 1, _ => rfl
    | 2, _ => rfl
  clear exs ehs
  go_enter Try.func3, Try.ntmps3
  go_wp2_with fail
  refine (c0 _).mono ?_
  rintro e w1 ⟨rfl, g⟩
  go_wp2_with fail
  refine (cK _).mono ?_
  rintro e w2 ⟨v1, rfl, hv1, q2⟩
  obtain ⟨oo1, nn1, pp1, rfl⟩ := hv1.form
  replace g := g.trans q2.b
  go_wp2_with fail
  refine (cW _ (HV.out.keepB g)).mono ?_
  rintro e w3 ⟨v2, l, rfl, hl, hr, g2⟩
  obtain ⟨oo2, nn2, pp2, rfl⟩ := hl.form
  replace g := g.trans g2
  have T0 := fun t => twoS_new w3 t (.slice oo1 nn1 pp1) (.slice oo2 nn2 pp2) lk l (hv1.keepB g2) hl rK hr
  clear g2 cW c0 HV cK q2 hv1 hl hr rK
  go_wp2
  have T2 := T0 25
  clear T0
  replace g := g.alloc #[.slice oo1 nn1 pp1, .slice oo2 nn2 pp2] 25
  generalize w3.alloc (.cells #[.slice oo1 nn1 pp1, .slice oo2 nn2 pp2] 25) = W1 at *
  generalize w3.heap.size = bb at *
  have G0 := Lib.hid g
  clear g
  go_loopw [36] (fun i wr => ∃ m : Nat, m ≤ 2 ∧ i = .int .i64 m ∧ B W1 wr) (fun i _ => 2 - (intOf i).toNat)
  case atStart => exact ⟨0, Nat.zero_le _, rfl, B.refl _⟩
  case round =>
    obtain ⟨m, hm, rfl, g⟩ := hrel
    by_cases hm2 : m < 2
    · have hmB : decide ((m : Int) < 2) = true := decide_eq_true (by omega)
      obtain ⟨vs, ls, hc, hsecs, hrs⟩ := (T2.keep g) m hm2
      obtain ⟨os, ns, ps, rfl⟩ := hsecs.form
      have cO := fun w h => both_any c (.slice os ns ps) ls w h hrs
      have hb := tbnd_of hrs
      have hL := slAll_pos hrs
      generalize slAll ls = L at *
      go_wp2_with fail
      refine (cO _ hsecs).mono ?_
      rintro e w4 ⟨pt, pw, rfl, ht, hw, h⟩
      replace g := g.trans h
      clear h cO hsecs hc hrs
      go_wp2
      have n5 := nums5 w4 2
      replace ht := c.keep ht ((B.refl w4).alloc #[.int .i64 vv, .int .i64 x1, .int .i64 x2, .int .i64 x3, .int .i64 0] 2)
      replace hw := hw.keepB ((B.refl w4).alloc #[.int .i64 vv, .int .i64 x1, .int .i64 x2, .int .i64 x3, .int .i64 0] 2)
      replace g := g.alloc #[.int .i64 vv, .int .i64 x1, .int .i64 x2, .int .i64 x3, .int .i64 0] 2
      generalize w4.alloc (.cells #[.int .i64 vv, .int .i64 x1, .int .i64 x2, .int .i64 x3, .int .i64 0] 2) = W5 at *
      generalize w4.heap.size = b5 at *
      have HT := Lib.hid ht
      have HW := Lib.hid hw
      have HG := Lib.hid g
      clear ht hw g
      obtain ⟨wo, rfl⟩ : ∃ wo : World, wo = wr := ⟨_, rfl⟩
      go_loopw [63] (fun i wr => ∃ j : Nat, j ≤ 5 ∧ i = .int .i64 j ∧ T wr (.pointer (some pt)) L ∧ RTab wr pw L ∧ B W5 wr) (fun i _ => 5 - (intOf i).toNat)
      case atStart => exact ⟨0, Nat.zero_le _, rfl, HT.out, HW.out, B.refl _⟩
      case round =>
        clear HT HW
        obtain ⟨j, hj, rfl, ht, hw, g⟩ := hrel
        by_cases hj5 : j < 5
        · have hjB : decide ((j : Int) < 5) = true := decide_eq_true (by omega)
          have hjI : (j : Int) < 5 := by omega
          have hcx := g.keep (n5 j hj5)
          have ix := ixs j hj5
          generalize xs j = x at *
          have a1 := fun w h => lv.low (.pointer (some pt)) L x w hb ix h
          have a2 := fun w h => lv.high (.pointer (some pt)) L x w hb ix h
          have a3 := fun w h => lv.tru (.pointer (some pt)) L x part w hb ix ipt h
          have a4 := fun w h => lv.tru (.pointer (some pt)) L x pp w hb ix ipp h
          have r1 := fun w h => r3lvLow_any pw L x w hb h
          have r2 := fun w h => r3lvHigh_any pw L x w hb h
          have r3 := fun w h => r3lvTrue_any pw L x part w hb h
          have r4 := fun w h => r3lvTrue_any pw L x pp w hb h
          generalize lvLow L x = z1 at *
          generalize lvHigh L x = z2 at *
          generalize lvTrue L x part = z3 at *
          generalize lvTrue L x pp = z4 at *
          go_wp2_with fail
          refine (a1 _ ht).mono ?_
          rintro e wS ⟨rfl, q⟩
          replace g := g.trans q
          replace ht := c.keep ht q
          replace hw := hw.keepB q
          clear q
          go_wp2_with fail
          refine (r1 _ hw).mono ?_
          rintro e wS ⟨rfl, q⟩
          replace g := g.trans q
          replace ht := c.keep ht q
          replace hw := hw.keepB q
          clear q
          go_wp2_with fail
          refine (a2 _ ht).mono ?_
          rintro e wS ⟨rfl, q⟩
          replace g := g.trans q
          replace ht := c.keep ht q
          replace hw := hw.keepB q
          clear q
          go_wp2_with fail
          refine (r2 _ hw).mono ?_
          rintro e wS ⟨rfl, q⟩
          replace g := g.trans q
          replace ht := c.keep ht q
          replace hw := hw.keepB q
          clear q
          go_wp2_with fail
          refine (a3 _ ht).mono ?_
          rintro e wS ⟨rfl, q⟩
          replace g := g.trans q
          replace ht := c.keep ht q
          replace hw := hw.keepB q
          clear q
          go_wp2_with fail
          refine (r3 _ hw).mono ?_
          rintro e wS ⟨rfl, q⟩
          replace g := g.trans q
          replace ht := c.keep ht q
          replace hw := hw.keepB q
          clear q
          go_wp2_with fail
          refine (a4 _ ht).mono ?_
          rintro e wS ⟨rfl, q⟩
          replace g := g.trans q
          replace ht := c.keep ht q
          replace hw := hw.keepB q
          clear q
          go_wp2_with fail
          refine (r4 _ hw).mono ?_
          rintro e wS ⟨rfl, q⟩
          replace g := g.trans q
          replace ht := c.keep ht q
          replace hw := hw.keepB q
          clear q
          go_wp2
          go_roundw
          case rel => exact ⟨j + 1, by omega, by go_num, ht, hw, g⟩
          case measure => simp [intOf]; omega
        · have hjB : decide ((j : Int) < 5) = false := decide_eq_false (by omega)
          replace g := HG.out.trans g
          clear n5 nums5 HG ixs
          go_wp2
          have n3 := nums3 wr 2
          replace ht := c.keep ht ((B.refl wr).alloc #[.int .i64 hh, .int .i64 h1, .int .i64 h2] 2)
          replace hw := hw.keepB ((B.refl wr).alloc #[.int .i64 hh, .int .i64 h1, .int .i64 h2] 2)
          replace g := g.alloc #[.int .i64 hh, .int .i64 h1, .int .i64 h2] 2
          generalize wr.alloc (.cells #[.int .i64 hh, .int .i64 h1, .int .i64 h2] 2) = W6 at *
          generalize wr.heap.size = b6 at *
          have HT := Lib.hid ht
          have HW := Lib.hid hw
          have HG := Lib.hid g
          clear ht hw g
          go_loopw [119] (fun i wr => ∃ j : Nat, j ≤ 3 ∧ i = .int .i64 j ∧ T wr (.pointer (some pt)) L ∧ RTab wr pw L ∧ B W6 wr) (fun i _ => 3 - (intOf i).toNat)
          case atStart => exact ⟨0, Nat.zero_le _, rfl, HT.out, HW.out, B.refl _⟩
          case round =>
            clear HT HW
            obtain ⟨j, hj, rfl, ht, hw, g⟩ := hrel
            by_cases hj3 : j < 3
            · have hjB : decide ((j : Int) < 3) = true := decide_eq_true (by omega)
              have hjI : (j : Int) < 3 := by omega
              have hcx := g.keep (n3 j hj3)
              have ix := ihs j hj3
              generalize hs j = x at *
              have a1 := fun w h => lw.vol (.pointer (some pt)) L x false w hb ix h
              have a2 := fun w h => lw.vol (.pointer (some pt)) L x true w hb ix h
              have r1 := fun w h => r3lvVol_any pw L x false w hb h
              have r2 := fun w h => r3lvVol_any pw L x true w hb h
              generalize lvVol L x false = z1 at *
              generalize lvVol L x true = z2 at *
              go_wp2_with fail
              refine (a1 _ ht).mono ?_
              rintro e wS ⟨rfl, q⟩
              replace g := g.trans q
              replace ht := c.keep ht q
              replace hw := hw.keepB q
              clear q
              go_wp2_with fail
              refine (r1 _ hw).mono ?_
              rintro e wS ⟨rfl, q⟩
              replace g := g.trans q
              replace ht := c.keep ht q
              replace hw := hw.keepB q
              clear q
              go_wp2_with fail
              refine (a2 _ ht).mono ?_
              rintro e wS ⟨rfl, q⟩
              replace g := g.trans q
              replace ht := c.keep ht q
              replace hw := hw.keepB q
              clear q
              go_wp2_with fail
              refine (r2 _ hw).mono ?_
              rintro e wS ⟨rfl, q⟩
              replace g := g.trans q
              replace ht := c.keep ht q
              replace hw := hw.keepB q
              clear q
              go_wp2
              go_roundw
              case rel => exact ⟨j + 1, by omega, by go_num, ht, hw, g⟩
              case measure => simp [intOf]; omega
            · have hjB : decide ((j : Int) < 3) = false := decide_eq_false (by omega)
              replace g := HG.out.trans g
              go_wp2
              go_roundw
              case rel => exact ⟨m + 1, by omega, by go_num, g⟩
              case measure => simp [intOf]; omega
    · have hmB : decide ((m : Int) < 2) = false := decide_eq_false (by omega)
      replace g := G0.out.trans g
      have z1 := nl.low vv
      have z2 := nl.high vv
      have z3 := nl.tru vv part
      have z4 := nl.vol hh true
      go_wp2_with fail
      refine (z1 _).mono ?_
      rintro e wS ⟨rfl, q⟩
      replace g := g.trans q
      clear q
      go_wp2_with fail
      refine (z2 _).mono ?_
      rintro e wS ⟨rfl, q⟩
      replace g := g.trans q
      clear q
      go_wp2_with fail
      refine (z3 _).mono ?_
      rintro e wS ⟨rfl, q⟩
      replace g := g.trans q
      clear q
      go_wp2_with fail
      refine (z4 _).mono ?_
      rintro e wS ⟨rfl, q⟩
      replace g := g.trans q
      clear q
      go_wp2
      go_ret
      exact ⟨rfl, g⟩
end Go.Proofs.Ytbeeaakkgfccfaa
