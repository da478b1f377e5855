/-
  Layer 16: the walk of ChunkSums; Layer 16: the walk of ChunkEven; Two rows of the same numbers are alike, wherever they lie; Layer 16's document: parts of a volume, strokes of a part, how many in all; The statements' help: a shape that may be asked.
-/
import Derived.Lib.MinMax
import Derived.Deep.QuietTactic
import Derived.BigQuiet
import Derived.Test.YtiblhebenhiijaaChecked
import Derived.Lib.ItoaMem
import Derived.Lib.Strings
import Derived.Test.YtiblhebenhiijaaY1
import Derived.Test.YtiblhebenhiijaaY2
import Derived.Test.YtiblhebenhiijaaY3
import Derived.Test.YtiblhebenhiijaaY4
namespace Go.Proofs.Ytiblhebenhiijaa
open Go.RowKit
set_option linter.unusedVariables false
set_option maxRecDepth 100000 in
set_option maxHeartbeats 4000000 in
theorem sums16_law (c : ChunkC) (d : CountC) (cap E nn : Int) (hc : (Lit.int .u32 cap).wf = true) (he : (Lit.int .u8 E).wf = true) (hn : (Lit.int .u32 nn).wf = true) (w : World) : Calls Try.prog 4 #[.int .u32 cap, .int .u8 E, .int .u32 nn] w fun e w' => e = .returned (.bool true) ∧ B w w' := by
  obtain ⟨c1, c2'⟩ := u32_wf hc
  obtain ⟨E1, E2⟩ := u8_wf he
  obtain ⟨nn1, nn2⟩ := u32_wf hn
  clear hc he hn
  have c0 := fun w => known16_any c d w
  have c2 := fun w => outer_any 0 (by decide) (by decide) w
  rw [show ((0 : Int) % 3).toNat = 0 by rfl] at c2
  obtain ⟨cz, ecz⟩ : ∃ z, cap % 300000 = z := ⟨_, rfl⟩
  have tcz : cap.tmod 300000 = cz := by rw [Int.tmod_eq_emod_of_nonneg (by omega)]; exact ecz
  have bcz : 0 ≤ cz ∧ cz < 300000 := by omega
  have xcz : IntKind.i64.wrap cz = cz := wrapI (by omega) (by omega)
  have ycz : IntKind.u32.wrap cz = cz := wrapU32 (by omega) (by omega)
  obtain ⟨v0, ev0⟩ : ∃ z, nn % 1000000 = z := ⟨_, rfl⟩
  have tv0 : nn.tmod 1000000 = v0 := by rw [Int.tmod_eq_emod_of_nonneg (by omega)]; exact ev0
  have bv0 : 0 ≤ v0 ∧ v0 < 1000000 := by omega
  have xv0 : IntKind.i64.wrap v0 = v0 := wrapI (by omega) (by omega)
  have yv0 : IntKind.u32.wrap v0 = v0 := wrapU32 (by omega) (by omega)
  have yE : IntKind.i64.wrap E = E := wrapI (by omega) (by omega)
  obtain ⟨v, ev⟩ : ∃ z, v0 + 1 = z := ⟨_, rfl⟩
  have wv : IntKind.i64.wrap (v0 + 1) = v := by rw [ev]; exact wrapI (by omega) (by omega)
  obtain ⟨cp, ecp⟩ : ∃ z, cz + 1200 = z := ⟨_, rfl⟩
  have wcp : IntKind.i64.wrap (cz + 1200) = cp := by rw [ecp]; exact wrapI (by omega) (by omega)
  obtain ⟨E4, eE4⟩ : ∃ z, 4 * E = z := ⟨_, rfl⟩
  have wE4 : IntKind.i64.wrap (4 * E) = E4 := by rw [eE4]; exact wrapI (by omega) (by omega)
  obtain ⟨m, em⟩ : ∃ z, cp - E4 = z := ⟨_, rfl⟩
  have wm : IntKind.i64.wrap (cp - E4) = m := by rw [em]; exact wrapI (by omega) (by omega)
  obtain ⟨mk, emk⟩ : ∃ z, m * 1000 = z := ⟨_, rfl⟩
  have wmk : IntKind.i64.wrap (m * 1000) = mk := by rw [emk]; exact wrapI (by omega) (by omega)
  have hvI : I64 v := by unfold I64; omega
  have hok := tip_ok (l := outerOf 0) (x := cp) (z := E) (outer_right 0) (by omega) (by omega)
  have hP := parts_ok (t := ⟨⟨#[116]⟩, cp, 9000, E, outerOf 0⟩) (v := v) hok (by omega)
  simp only [show cp - 4 * E = m by omega, if_neg (show ¬ m < 1 by omega)] at hP
  have hmany := ceil_many (v := v) (m := m) (by omega)
  rw [emk] at hmany
  have cT := fun sv w hs => r8tipright_any ⟨#[116]⟩ cp 9000 E sv (outerOf 0) w hs
  rw [tipB_ok, hok] at cT
  by_cases hb : 1000 < (v + m - 1).tdiv m
  · rw [if_pos hb] at hP
    have hmk := hmany.1 hb
    have d1 : decide (mk < v) = true := decide_eq_true hmk
    have cP := fun sv w hs => c.err hvI hP sv w hs
    have HX := Lib.hid (And.intro hP (And.intro hb (And.intro hmany hok)))
    clear hP hb hmany hmk hok cT
    generalize outerOf 0 = lo at *
    go_enter Try.func4, Try.ntmps4
    go_wp2_with fail
    refine (c0 _).mono ?_
    rintro e w1 ⟨rfl, g⟩
    go_wp2_with fail
    refine (c2 _).mono ?_
    rintro e w2 ⟨v2, rfl, hv2, q2⟩
    replace g := g.trans q2.b
    clear q2 c2 c0
    obtain ⟨oo2, nn2, pp2, rfl⟩ := hv2.form
    go_wp2_with fail
    have obb2 := obj_new w2 (.cells #[.string ⟨#[116]⟩, .int .i64 cp, .int .i64 9000, .int .i64 E, .slice oo2 nn2 pp2] 24)
    have qa : B w2 (w2.alloc (.cells #[.string ⟨#[116]⟩, .int .i64 cp, .int .i64 9000, .int .i64 E, .slice oo2 nn2 pp2] 24)) := (B.refl _).alloc _ _
    replace g := g.trans qa
    replace hv2 := hv2.keepB qa
    generalize w2.alloc (.cells #[.string ⟨#[116]⟩, .int .i64 cp, .int .i64 9000, .int .i64 E, .slice oo2 nn2 pp2] 24) = W3 at *
    generalize w2.heap.size = b2 at *
    clear qa
    have b2k0 := obj_cell obb2 0
    have b2k1 := obj_cell obb2 1
    have b2k2 := obj_cell obb2 2
    have b2k3 := obj_cell obb2 3
    have b2k4 := obj_cell obb2 4
    refine (cP _ _ hv2).mono ?_
    rintro e w4 ⟨rfl, q⟩
    replace g := g.trans q
    replace obb2 := q.obj obb2
    replace b2k0 := q.keep b2k0
    replace b2k1 := q.keep b2k1
    replace b2k2 := q.keep b2k2
    replace b2k3 := q.keep b2k3
    replace b2k4 := q.keep b2k4
    clear q
    clear cP hv2 HX
    go_wp2
    go_ret
    exact ⟨rfl, g⟩
  · rw [if_neg hb] at hP
    obtain ⟨q1, p1, p2⟩ := ceil_fits (v := v) (m := m) (by omega) (by omega)
    obtain ⟨P, eP⟩ : ∃ P : Nat, (v + m - 1).tdiv m = (P : Int) := ⟨((v + m - 1).tdiv m).toNat, by omega⟩
    rw [eP, show ((P : Int)).toNat = P by omega] at hP
    rw [eP] at q1 p1 p2 hb
    obtain ⟨hsum, hall⟩ := parts_all (v := v) (m := m) (n := P) (by omega) p2 q1
    have cP := fun sv w hs => c.ok hvI hP sv w hs
    have hlen := evenL_len v P
    generalize evenL v P = L at *
    rw [hlen] at cP
    have cS := fun (x : Int) (hx : x ∈ L) w => c.str (v := x) (by have := hall x hx; unfold I64; omega) w
    have HC := Lib.hid (And.intro cS (And.intro hall (And.intro hsum hlen)))
    have HX := Lib.hid (And.intro hP (And.intro hmany hok))
    have hmB : m ≤ 301199 ∧ E4 = 4 * E ∧ cp = m + E4 := by omega
    have HM := Lib.hid hmB
    have hvB : 1 ≤ v ∧ v ≤ 1000000 := by omega
    have hEB : 0 ≤ E ∧ E ≤ 255 := by omega
    have hPB : P ≤ 1000 := by omega
    have HV := Lib.hid (And.intro hvB (And.intro hEB hPB))
    clear hP hb hmany hok cS hall hsum q1 p1 p2 eP hmB em eE4 ecp ev emk hvB hEB hPB hlen
    generalize outerOf 0 = lo at *
    go_enter Try.func4, Try.ntmps4
    go_wp2_with fail
    refine (c0 _).mono ?_
    rintro e w1 ⟨rfl, g⟩
    go_wp2_with fail
    refine (c2 _).mono ?_
    rintro e w2 ⟨v2, rfl, hv2, q2⟩
    replace g := g.trans q2.b
    clear q2 c2 c0
    obtain ⟨oo2, nn2, pp2, rfl⟩ := hv2.form
    go_wp2_with fail
    have obb2 := obj_new w2 (.cells #[.string ⟨#[116]⟩, .int .i64 cp, .int .i64 9000, .int .i64 E, .slice oo2 nn2 pp2] 24)
    have qa : B w2 (w2.alloc (.cells #[.string ⟨#[116]⟩, .int .i64 cp, .int .i64 9000, .int .i64 E, .slice oo2 nn2 pp2] 24)) := (B.refl _).alloc _ _
    replace g := g.trans qa
    replace hv2 := hv2.keepB qa
    generalize w2.alloc (.cells #[.string ⟨#[116]⟩, .int .i64 cp, .int .i64 9000, .int .i64 E, .slice oo2 nn2 pp2] 24) = W3 at *
    generalize w2.heap.size = b2 at *
    clear qa
    have b2k0 := obj_cell obb2 0
    have b2k1 := obj_cell obb2 1
    have b2k2 := obj_cell obb2 2
    have b2k3 := obj_cell obb2 3
    have b2k4 := obj_cell obb2 4
    refine (cP _ _ hv2).mono ?_
    rintro e w4 ⟨o4, cp4, rfl, hz4, q⟩
    replace g := g.trans q
    replace obb2 := q.obj obb2
    replace b2k0 := q.keep b2k0
    replace b2k1 := q.keep b2k1
    replace b2k2 := q.keep b2k2
    replace b2k3 := q.keep b2k3
    replace b2k4 := q.keep b2k4
    replace hv2 := hv2.keepB q
    clear q
    clear b2k0 b2k1 b2k2 b2k3 b2k4 cP HX
    have HW := Lib.hid (And.intro g (And.intro hv2 (And.intro obb2 hz4)))
    clear g hv2 obb2 hz4
    go_wp2_with fail
    go_loopw [11, 12] (fun sv iv wr => ∃ i : Nat, i ≤ P ∧ sv = .int .i64 ((L.take i).sum) ∧ iv = .int .i64 i ∧ B w4 wr) (fun _ iv _ => P + 1 - (intOf iv).toNat)
    case atStart => exact ⟨0, Nat.zero_le _, by simp, rfl, B.refl _⟩
    case round =>
      obtain ⟨i, hi, rfl, rfl, q⟩ := hrel
      obtain ⟨wl, rfl⟩ : ∃ wl : World, wl = wr := ⟨_, rfl⟩
      by_cases hl : i < P
      · have hlB : decide ((i : Int) < (P : Int)) = true := decide_eq_true (by omega)
        have hlN : decide (i < P) = true := decide_eq_true hl
        have hlI : (i : Int) < (P : Int) := by omega
        have hi0 : (0 : Int) ≤ (i : Int) := by omega
        have hlt : i < L.length := by rw [HC.out.2.2.2]; exact hl
        obtain ⟨x, hx⟩ : ∃ x, L[i]? = some x := ⟨_, List.getElem?_eq_getElem hlt⟩
        have hxm := List.mem_of_getElem? hx
        obtain ⟨x1, x2⟩ := HC.out.2.1 x hxm
        obtain ⟨b4, e4, k4⟩ := (HW.out.2.2.2.keep q) i x hx
        have cSx := HC.out.1 x hxm
        obtain ⟨ss, sl4, sall⟩ := strokes_all x1
        have hts := sum_take_succ hx
        have hb1 := sum_bnd L i (fun y hy => by have := HC.out.2.1 y hy; omega)
        have hb2 := sum_bnd L (i + 1) (fun y hy => by have := HC.out.2.1 y hy; omega)
        rw [HC.out.2.2.1] at hb1 hb2
        have hm0 := HM.out
        have hv0 := HV.out
        generalize strokesL x = LK at *
        obtain ⟨sK, hsK⟩ : ∃ z, LK.length = z := ⟨_, rfl⟩
        rw [hsK] at cSx sl4
        subst e4
        obtain ⟨S0, hS0⟩ : ∃ z, (L.take i).sum = z := ⟨_, rfl⟩
        obtain ⟨S1, hS1⟩ : ∃ z, (L.take (i + 1)).sum = z := ⟨_, rfl⟩
        rw [hS0, hS1] at hts
        rw [hS0] at hb1
        rw [hS1] at hb2
        have wS1 : IntKind.i64.wrap (S0 + x) = S1 := by rw [← hts]; exact wrapI (by omega) (by omega)
        rw [hS0]
        have HL := Lib.hid (And.intro hx (And.intro hl (And.intro q (And.intro hS1 (And.intro hS0 hts)))))
        have HK := Lib.hid (And.intro ss (And.intro sall (And.intro hsK (And.intro x1 x2))))
        clear hx hl hi q hxm hlt ss sall hsK hb1 hb2 hm0 hv0 x1 x2 hts hS0 hS1
        go_wp2_with fail
        refine (cSx _).mono ?_
        rintro e w6 ⟨o6, cp6, rfl, hz6, q6⟩
        replace k4 := q6.keep k4
        have HQ := Lib.hid (And.intro (HL.out.2.2.1.trans q6) hz6)
        clear q6 hz6 cSx
        go_wp2_with fail
        go_loopw [13, 15] (fun sv kv wr => ∃ k : Nat, k ≤ sK ∧ sv = .int .i64 ((LK.take k).sum) ∧ kv = .int .i64 k ∧ B w6 wr) (fun _ kv _ => sK + 1 - (intOf kv).toNat)
        case atStart => exact ⟨0, Nat.zero_le _, by simp, rfl, B.refl _⟩
        case round =>
          obtain ⟨k, hk, rfl, rfl, q⟩ := hrel
          obtain ⟨wi, rfl⟩ : ∃ wi : World, wi = wr := ⟨_, rfl⟩
          replace k4 := q.keep k4
          have hsB := sum_bnd LK k (fun y hy => by have := HK.out.2.1 y hy; omega)
          rw [HK.out.1] at hsB
          by_cases hkl : k < sK
          · have hkB : decide ((k : Int) < (sK : Int)) = true := decide_eq_true (by omega)
            have hkN : decide (k < sK) = true := decide_eq_true hkl
            have hkI : (k : Int) < (sK : Int) := by omega
            have hk0 : (0 : Int) ≤ (k : Int) := by omega
            obtain ⟨y, hy⟩ : ∃ y, LK[k]? = some y := ⟨_, List.getElem?_eq_getElem (by rw [HK.out.2.2.1]; exact hkl)⟩
            have y1 := HK.out.2.1 y (List.mem_of_getElem? hy)
            obtain ⟨b6, e6, k6⟩ := (HQ.out.2.keep q) k y hy
            subst e6
            have hts := sum_take_succ hy
            have hsB2 := sum_bnd LK (k + 1) (fun y hy => by have := HK.out.2.1 y hy; omega)
            rw [HK.out.1] at hsB2
            have hv0 := HV.out
            have hm0 := HM.out
            have hx0 := HK.out.2.2.2
            obtain ⟨T0, hT0⟩ : ∃ z, (LK.take k).sum = z := ⟨_, rfl⟩
            obtain ⟨T1, hT1⟩ : ∃ z, (LK.take (k + 1)).sum = z := ⟨_, rfl⟩
            rw [hT0, hT1] at hts
            rw [hT1] at hsB2
            have wT1 : IntKind.i64.wrap (T0 + y) = T1 := by rw [← hts]; exact wrapI (by omega) (by omega)
            have wk1 : IntKind.i64.wrap ((k : Int) + 1) = (k : Int) + 1 := wrapI (by omega) (by omega)
            have dy : decide (y < 1) = false := decide_eq_false (by omega)
            rw [hT0]
            have HY := Lib.hid (And.intro hkl (And.intro q hT1))
            clear hy hts hsB hsB2 hv0 hm0 hx0 hkl q hk y1 hT0 hT1
            go_wp2
            go_roundw
            case rel => exact ⟨k + 1, by have := HY.out.1; omega, by rw [HY.out.2.2], by go_num, HY.out.2.1⟩
            case measure => have := HY.out.1; simp [intOf]; omega
          · have hkB : decide ((k : Int) < (sK : Int)) = false := decide_eq_false (by omega)
            have hkN : decide (k < sK) = false := decide_eq_false hkl
            obtain rfl : k = sK := by omega
            have hT0 : (LK.take k).sum = x := by rw [List.take_of_length_le (by rw [HK.out.2.2.1]; exact Nat.le_refl _)]; exact HK.out.1
            rw [hT0]
            have qB := HQ.out.1.trans q
            have ob := qB.obj HW.out.2.2.1
            have j1 := obj_cell ob 1
            have j3 := obj_cell ob 3
            have hv0 := HV.out
            have hm0 := HM.out
            have hx0 := HK.out.2.2.2
            have nn0 : (k : Int) * E ≤ 4 * E := Int.mul_le_mul_of_nonneg_right (by omega) (by omega)
            have nn1 : 0 ≤ (k : Int) * E := Int.mul_nonneg (by omega) (by omega)
            obtain ⟨u1, hu1⟩ : ∃ z, (k : Int) * E = z := ⟨_, rfl⟩
            rw [hu1] at nn0 nn1
            have wu1 : IntKind.i64.wrap ((k : Int) * E) = u1 := by rw [hu1]; exact wrapI (by omega) (by omega)
            obtain ⟨u2, hu2⟩ : ∃ z, x + u1 = z := ⟨_, rfl⟩
            have wu2 : IntKind.i64.wrap (x + u1) = u2 := by rw [hu2]; exact wrapI (by omega) (by omega)
            have du : decide (cp < u2) = false := decide_eq_false (by omega)
            have dk : decide ((4 : Int) < (k : Int)) = false := decide_eq_false (by omega)
            have dkN : decide (4 < k) = false := decide_eq_false (by omega)
            have wi1 : IntKind.i64.wrap ((i : Int) + 1) = (i : Int) + 1 := wrapI (by omega) (by omega)
            have wkk : IntKind.i64.wrap (k : Int) = (k : Int) := wrapI (by omega) (by omega)
            have HZ := Lib.hid (And.intro qB HL.out)
            clear hT0 ob qB hv0 hm0 hx0 nn0 nn1 hu1 hu2 hsB q hk hkl sl4
            go_wp2_with fail
            go_quiet (fail)
            go_wp2
            go_roundw
            case rel => exact ⟨i + 1, by have := HZ.out.2.2.1; omega, by rw [HZ.out.2.2.2.2.1], by go_num, HZ.out.1.drewN _⟩
            case measure => have := HZ.out.2.2.1; simp [intOf]; omega
      · have hlB : decide ((i : Int) < (P : Int)) = false := decide_eq_false (by omega)
        have hlN : decide (i < P) = false := decide_eq_false hl
        obtain rfl : i = P := by omega
        have hS0 : (L.take i).sum = v := by rw [List.take_of_length_le (by rw [HC.out.2.2.2]; exact Nat.le_refl _)]; exact HC.out.2.2.1
        rw [hS0]
        have ob := q.obj HW.out.2.2.1
        have b2k0 := obj_cell ob 0
        have b2k1 := obj_cell ob 1
        have b2k2 := obj_cell ob 2
        have b2k3 := obj_cell ob 3
        have b2k4 := obj_cell ob 4
        have hv2 := HW.out.2.1.keepB q
        have g := HW.out.1.trans q
        clear hS0 ob q hl hi
        go_wp2_with fail
        refine (cT _ _ hv2).mono ?_
        rintro e w9 ⟨rfl, q9⟩
        replace g := g.trans q9
        go_wp2
        go_ret
        exact ⟨rfl, g⟩
end Go.Proofs.Ytiblhebenhiijaa

namespace Go.Proofs.Ytiblhebenhiijaa
open Go.RowKit
set_option linter.unusedVariables false
set_option maxRecDepth 100000 in
set_option maxHeartbeats 4000000 in
theorem even16_law (c : ChunkC) (d : CountC) (cap E nn u : Int) (hc : (Lit.int .u32 cap).wf = true) (he : (Lit.int .u8 E).wf = true) (hn : (Lit.int .u32 nn).wf = true) (hu : (Lit.int .i64 u).wf = true) (w : World) : Calls Try.prog 5 #[.int .u32 cap, .int .u8 E, .int .u32 nn, .int .i64 u] w fun e w' => e = .returned (.bool true) ∧ B w w' := by
  obtain ⟨c1, c2'⟩ := u32_wf hc
  obtain ⟨E1, E2⟩ := u8_wf he
  obtain ⟨nn1, nn2⟩ := u32_wf hn
  clear hc he hn hu
  have c0 := fun w => known16_any c d w
  have c2 := fun w => outer_any 1 (by decide) (by decide) w
  rw [show ((1 : Int) % 3).toNat = 1 by rfl] at c2
  obtain ⟨cz, ecz⟩ : ∃ z, cap % 30000 = z := ⟨_, rfl⟩
  have tcz : cap.tmod 30000 = cz := by rw [Int.tmod_eq_emod_of_nonneg (by omega)]; exact ecz
  have bcz : 0 ≤ cz ∧ cz < 30000 := by omega
  have xcz : IntKind.i64.wrap cz = cz := wrapI (by omega) (by omega)
  have ycz : IntKind.u32.wrap cz = cz := wrapU32 (by omega) (by omega)
  obtain ⟨v0, ev0⟩ : ∃ z, nn % 100000 = z := ⟨_, rfl⟩
  have tv0 : nn.tmod 100000 = v0 := by rw [Int.tmod_eq_emod_of_nonneg (by omega)]; exact ev0
  have bv0 : 0 ≤ v0 ∧ v0 < 100000 := by omega
  have xv0 : IntKind.i64.wrap v0 = v0 := wrapI (by omega) (by omega)
  have yv0 : IntKind.u32.wrap v0 = v0 := wrapU32 (by omega) (by omega)
  have yE : IntKind.i64.wrap E = E := wrapI (by omega) (by omega)
  obtain ⟨v, ev⟩ : ∃ z, v0 + 1 = z := ⟨_, rfl⟩
  have wv : IntKind.i64.wrap (v0 + 1) = v := by rw [ev]; exact wrapI (by omega) (by omega)
  obtain ⟨cp, ecp⟩ : ∃ z, cz + 1200 = z := ⟨_, rfl⟩
  have wcp : IntKind.i64.wrap (cz + 1200) = cp := by rw [ecp]; exact wrapI (by omega) (by omega)
  have hvI : I64 v := by unfold I64; omega
  have hok := tip_ok (l := outerOf 1) (x := cp) (z := E) (outer_right 1) (by omega) (by omega)
  have hP := parts_ok (t := ⟨⟨#[116]⟩, cp, 9000, E, outerOf 1⟩) (v := v) hok (by omega)
  obtain ⟨m, em⟩ : ∃ z, cp - 4 * E = z := ⟨_, rfl⟩
  have hmany := ceil_many (v := v) (m := m) (by omega)
  simp only [em, if_neg (show ¬ m < 1 by omega)] at hP
  rw [if_neg (fun h => by have := hmany.1 h; omega)] at hP
  have hb : ¬ 1000 < (v + m - 1).tdiv m := fun h => by have := hmany.1 h; omega
  obtain ⟨q1, p1, p2⟩ := ceil_fits (v := v) (m := m) (by omega) (by omega)
  obtain ⟨P, eP⟩ : ∃ P : Nat, (v + m - 1).tdiv m = (P : Int) := ⟨((v + m - 1).tdiv m).toNat, by omega⟩
  rw [eP, show ((P : Int)).toNat = P by omega] at hP
  rw [eP] at hb
  have cP := fun sv w hs => c.ok hvI hP sv w hs
  have hq4 := even_q v P
  have hlen := evenL_len v P
  have hPB : P ≤ 1000 := by omega
  generalize evenL v P = L at *
  obtain ⟨x1, x2⟩ := and_mask u 16777215 (by omega)
  obtain ⟨NU, eNU⟩ : ∃ z, IntKind.i64.wrap (-u) = z := ⟨_, rfl⟩
  obtain ⟨y1, y2⟩ := and_mask NU 255 (by omega)
  rw [show ((16777215 : Nat) : Int) = 16777215 by rfl] at x1 x2
  rw [show ((255 : Nat) : Int) = 255 by rfl] at y1 y2
  have cS := fun w => c.str (v := bits .and .i64 u 16777215) (by unfold I64; omega) w
  have hq6 := strokes_q (bits .and .i64 u 16777215)
  have hl6 : (strokesL (bits .and .i64 u 16777215)).length ≤ 4 := by
    by_cases h : bits .and .i64 u 16777215 ≤ 0
    · rw [strokes_none h]; exact Nat.zero_le _
    · obtain ⟨n, e, _, h4, _⟩ := strokes_pos (show 0 < bits .and .i64 u 16777215 by omega)
      rw [e, evenL_len]; exact h4
  generalize strokesL (bits .and .i64 u 16777215) = L6 at *
  generalize hX : bits .and .i64 u 16777215 = X at *
  have cZ := fun w => c.str (v := 0) (by decide) w
  rw [strokes_none (by decide)] at cZ
  have cN := fun w => c.str (v := bits .and .i64 NU 255 - 300) (by unfold I64; omega) w
  rw [strokes_none (by omega)] at cN
  generalize hY : bits .and .i64 NU 255 = Y at *
  obtain ⟨Y3, eY3⟩ : ∃ z, Y - 300 = z := ⟨_, rfl⟩
  have wY3 : IntKind.i64.wrap (Y - 300) = Y3 := by rw [eY3]; exact wrapI (by omega) (by omega)
  rw [eY3] at cN
  have HX := Lib.hid (And.intro hq4 (And.intro hq6 (And.intro hlen (And.intro hPB hl6))))
  obtain ⟨N6, hN6⟩ : ∃ z, L6.length = z := ⟨_, rfl⟩
  obtain ⟨N4, hN4⟩ : ∃ z, L.length = z := ⟨_, rfl⟩
  rw [hN6] at cS
  rw [hN4] at cP
  have HN := Lib.hid (And.intro hN4 hN6)
  clear hP hb hmany hok hq4 hq6 hlen hPB hl6 q1 p1 p2 eP em ecp ev eY3 hN4 hN6 x1 x2 y1 y2
  generalize outerOf 1 = lo at *
  go_enter Try.func5, Try.ntmps5
  go_wp2_with fail
  refine (c0 _).mono ?_
  rintro e w1 ⟨rfl, g⟩
  go_wp2_with fail
  refine (c2 _).mono ?_
  rintro e w2 ⟨v2, rfl, hv2, q2⟩
  replace g := g.trans q2.b
  clear q2 c2 c0
  obtain ⟨oo2, nn2, pp2, rfl⟩ := hv2.form
  go_wp2_with fail
  have obb2 := obj_new w2 (.cells #[.string ⟨#[116]⟩, .int .i64 cp, .int .i64 9000, .int .i64 E, .slice oo2 nn2 pp2] 24)
  have qa : B w2 (w2.alloc (.cells #[.string ⟨#[116]⟩, .int .i64 cp, .int .i64 9000, .int .i64 E, .slice oo2 nn2 pp2] 24)) := (B.refl _).alloc _ _
  replace g := g.trans qa
  replace hv2 := hv2.keepB qa
  generalize w2.alloc (.cells #[.string ⟨#[116]⟩, .int .i64 cp, .int .i64 9000, .int .i64 E, .slice oo2 nn2 pp2] 24) = W3 at *
  generalize w2.heap.size = b2 at *
  clear qa
  have b2k0 := obj_cell obb2 0
  have b2k1 := obj_cell obb2 1
  have b2k2 := obj_cell obb2 2
  have b2k3 := obj_cell obb2 3
  have b2k4 := obj_cell obb2 4
  refine (cP _ _ hv2).mono ?_
  rintro e w4 ⟨o4, cp4, rfl, hz4, q⟩
  replace g := g.trans q
  clear q
  clear hv2 cP b2k0 b2k1 b2k2 b2k3 b2k4 obb2
  go_wp2_with fail
  refine (cS _).mono ?_
  rintro e w6 ⟨o6, cp6, rfl, hz6, q⟩
  replace g := g.trans q
  replace hz4 := hz4.keep q
  clear q cS
  go_wp2
  have qa : B w6 (w6.alloc (.cells #[.slice o4 N4 cp4, .slice o6 N6 cp6] 31)) := (B.refl _).alloc _ _
  have ob := obj_new w6 (.cells #[.slice o4 N4 cp4, .slice o6 N6 cp6] 31)
  replace g := g.trans qa
  replace hz4 := hz4.keep qa
  replace hz6 := hz6.keep qa
  generalize w6.alloc (.cells #[.slice o4 N4 cp4, .slice o6 N6 cp6] 31) = W1 at *
  generalize w6.heap.size = bb at *
  have T2 : ∀ j : Nat, j < 2 → ∃ o n cp l, W1.cell? ⟨bb, j, none⟩ = some (.slice o n cp) ∧ l.length = n ∧ n ≤ 1000 ∧ IsZ W1 o l ∧ EvQ l := fun j hj => by
    have hx := HX.out
    have hn := HN.out
    match j, hj with
    | 0, _ => exact ⟨o4, N4, cp4, L, obj_cell ob 0, hn.1, by omega, hz4, hx.1⟩
    | 1, _ => exact ⟨o6, N6, cp6, L6, obj_cell ob 1, hn.2, by omega, hz6, hx.2.1⟩
  have G0 := Lib.hid g
  clear g hz4 hz6 ob qa HX HN
  go_loopw [44] (fun i wr => ∃ m : Nat, m ≤ 2 ∧ i = .int .i64 m ∧ B W1 wr) (fun i _ => 2 - (intOf i).toNat)
  case atStart => exact ⟨0, Nat.zero_le _, rfl, B.refl _⟩
  case round =>
    obtain ⟨m, hm, rfl, g⟩ := hrel
    obtain ⟨wl, rfl⟩ : ∃ wl : World, wl = wr := ⟨_, rfl⟩
    by_cases hm2 : m < 2
    · have hmB : decide ((m : Int) < 2) = true := decide_eq_true (by omega)
      obtain ⟨o, n, cpn, l, hc, hl, hn, hz, hq⟩ := T2 m hm2
      replace hc := g.keep hc
      replace hz := hz.keep g
      have H5 := Lib.hid (And.intro hl (And.intro hn (And.intro hz hq)))
      have HG := Lib.hid (And.intro g hm2)
      have hmI : (m : Int) < 2 := by omega
      have hm0 : (0 : Int) ≤ (m : Int) := by omega
      clear hl hn hz hq g hm
      go_wp2_with fail
      clear hmI hm0 hm2
      go_loopw [14] (fun i wr => ∃ j : Nat, 1 ≤ j ∧ (j ≤ n ∨ j = 1) ∧ i = .int .i64 j ∧ B wl wr) (fun i _ => n + 1 - (intOf i).toNat)
      case atStart => exact ⟨1, Nat.le_refl _, .inr rfl, rfl, B.refl _⟩
      case round =>
        obtain ⟨j, hj1, hjn, rfl, q⟩ := hrel
        obtain ⟨wi, rfl⟩ : ∃ wi : World, wi = wr := ⟨_, rfl⟩
        by_cases hj : j < n
        · have hjB : decide ((j : Int) < (n : Int)) = true := decide_eq_true (by omega)
          have hjN : decide (j < n) = true := decide_eq_true hj
          have hjI : (j : Int) < (n : Int) := by omega
          have hj0 : (0 : Int) ≤ (j : Int) := by omega
          obtain ⟨i, hji⟩ : ∃ i, j = i + 1 := ⟨j - 1, by omega⟩
          have hll := H5.out.1
          obtain ⟨x, hx⟩ : ∃ x, l[i]? = some x := ⟨_, List.getElem?_eq_getElem (by omega)⟩
          obtain ⟨y, hy⟩ : ∃ y, l[j]? = some y := ⟨_, List.getElem?_eq_getElem (by omega)⟩
          obtain ⟨z, hz⟩ : ∃ z, l[0]? = some z := ⟨_, List.getElem?_eq_getElem (by omega)⟩
          obtain ⟨f1, f2, f3⟩ := H5.out.2.2.2 i x y z hx (hji ▸ hy) hz
          have hzz := H5.out.2.2.1.keep q
          obtain ⟨b, e0, k1⟩ := hzz i x hx
          subst e0
          obtain ⟨_, e1, k2⟩ := hzz j y hy
          obtain rfl : b = _ := by injection e1 with e1; injection e1
          obtain ⟨_, e2, k3⟩ := hzz 0 z hz
          obtain rfl : b = _ := by injection e2 with e2; injection e2
          have hn9 := H5.out.2.1
          have wi1 : IntKind.i64.wrap ((j : Int) - 1) = (i : Int) := by rw [show (j : Int) - 1 = (i : Int) by omega]; exact wrapI (by omega) (by omega)
          have wi2 : IntKind.i64.wrap ((j : Int) + 1) = (j : Int) + 1 := wrapI (by omega) (by omega)
          have hii : (i : Int) < (n : Int) := by omega
          have hi0 : (0 : Int) ≤ (i : Int) := by omega
          have hn0 : (0 : Int) < (n : Int) := by omega
          have d1 : decide (x < y) = false := decide_eq_false (by omega)
          obtain ⟨zy, ezy⟩ : ∃ t, z - y = t := ⟨_, rfl⟩
          have wzy : IntKind.i64.wrap (z - y) = zy := by rw [ezy]; exact wrapI (by omega) (by omega)
          have d2 : decide (1 < zy) = false := decide_eq_false (by omega)
          have HY := Lib.hid (And.intro hj q)
          clear hx hy hz f1 f2 f3 hzz e1 e2 hn9 ezy hll hj q hjn
          have hjn0 : 0 < n := by have := HY.out.1; omega
          clear hji
          go_wp2_with fail
          go_quiet (fail)
          go_wp2
          go_roundw
          case rel => exact ⟨j + 1, by omega, .inl (by have := HY.out.1; omega), by go_num, HY.out.2.drewN _⟩
          case measure => have := HY.out.1; simp [intOf]; omega
        · have hjB : decide ((j : Int) < (n : Int)) = false := decide_eq_false (by omega)
          have hjN : decide (j < n) = false := decide_eq_false hj
          have HY := Lib.hid (HG.out.1.trans q)
          clear q hj hjn
          have wm1 : IntKind.i64.wrap ((m : Int) + 1) = (m : Int) + 1 := wrapI (by omega) (by have := HG.out.2; omega)
          go_wp2
          go_roundw
          case rel => exact ⟨m + 1, by have := HG.out.2; omega, by go_num, HY.out⟩
          case measure => have := HG.out.2; simp [intOf]; omega
    · have hmB : decide ((m : Int) < 2) = false := decide_eq_false (by omega)
      replace g := G0.out.trans g
      clear G0 T2
      go_wp2_with fail
      refine (cZ _).mono ?_
      rintro e w7 ⟨o7, cp7, rfl, _, q⟩
      replace g := g.trans q
      clear q
      go_wp2_with fail
      refine (cN _).mono ?_
      rintro e w8 ⟨o8, cp8, rfl, _, q⟩
      replace g := g.trans q
      clear q
      go_wp2
      go_ret
      exact ⟨rfl, g⟩
end Go.Proofs.Ytiblhebenhiijaa

namespace Go.Proofs.Ytiblhebenhiijaa
open Go.RowKit
set_option linter.unusedVariables false
set_option maxRecDepth 100000 in
set_option maxHeartbeats 4000000 in
theorem longs_z (o1 o2 : Option Addr) (c1 c2 : Nat) (l : List Int) (hn : l.length ≤ 10000) (w : World) (h1 : IsZ w o1 l) (h2 : IsZ w o2 l) :
    Calls Try.prog 14 #[.slice o1 l.length c1, .slice o2 l.length c2] w fun e w' => e = .returned (.bool true) ∧ B w w' := by
  have H := Lib.hid (And.intro h1 h2)
  obtain ⟨nn, hnn⟩ : ∃ z, l.length = z := ⟨_, rfl⟩
  rw [hnn] at hn ⊢
  have HN := Lib.hid hnn
  clear h1 h2 hnn
  go_enter Try.func14, Try.ntmps14
  go_wp2_with fail
  go_loopw [5] (fun iv wr => ∃ i : Nat, i ≤ nn ∧ iv = .int .i64 i ∧ B w wr) (fun iv _ => nn + 1 - (intOf iv).toNat)
  case atStart => exact ⟨0, Nat.zero_le _, rfl, B.refl _⟩
  case round =>
    obtain ⟨j, hj, rfl, qr⟩ := hrel
    obtain ⟨wl, rfl⟩ : ∃ wl : World, wl = wr := ⟨_, rfl⟩
    by_cases hl : j < nn
    · have hlB : decide ((j : Int) < (nn : Int)) = true := decide_eq_true (by omega)
      have hlN : decide (j < nn) = true := decide_eq_true hl
      have hlI : (j : Int) < (nn : Int) := by omega
      have hi0 : (0 : Int) ≤ (j : Int) := by omega
      have wk1 : IntKind.i64.wrap ((j : Int) + 1) = (j : Int) + 1 := by rw [IntKind.wrap_i64]; omega
      obtain ⟨x, hx⟩ : ∃ x, l[j]? = some x := ⟨_, List.getElem?_eq_getElem (by rw [HN.out]; exact hl)⟩
      obtain ⟨g1, e1, a1⟩ := (H.out.1.keep qr) j x hx
      obtain ⟨g2, e2, a2⟩ := (H.out.2.keep qr) j x hx
      subst e1 e2
      have HX := Lib.hid (And.intro hl qr)
      clear qr hl hj hx
      go_wp2_with fail
      go_quiet (fail)
      go_wp2
      go_roundw
      case rel => exact ⟨j + 1, by have := HX.out.1; omega, by go_num, HX.out.2.drewN _⟩
      case measure => have := HX.out.1; simp [intOf]; omega
    · have hlB : decide ((j : Int) < (nn : Int)) = false := decide_eq_false (by omega)
      have hlN : decide (j < nn) = false := decide_eq_false hl
      have HX := Lib.hid qr
      clear qr hl hj
      go_wp2
      go_ret
      exact ⟨rfl, HX.out⟩
end Go.Proofs.Ytiblhebenhiijaa

namespace Go.Proofs.Ytiblhebenhiijaa
open Go.RowKit
set_option linter.unusedVariables false
set_option maxRecDepth 100000 in
set_option maxHeartbeats 2000000 in
theorem r11even_any (v : Int) (n : Nat) (hv : 0 ≤ v ∧ v ≤ 9223372036854775807) (hn : n ≤ 1000) (w : World) :
    Calls Try.prog 21 #[.int .i64 v, .int .i64 (n : Int)] w fun e w' => ∃ s, e = .returned s ∧ RowZ w' w.heap.size s (evenL v n) ∧ B w w' := by
  obtain ⟨i0, hi0, hz0, hz1, hz2⟩ := info_of longInfo
  have hL := evenL_len v n
  obtain ⟨EL, hEL⟩ : ∃ EL, evenL v n = EL := ⟨_, rfl⟩
  have HT := Lib.hid (fun i (h : i < n) => hEL ▸ evenL_take v h)
  have HL := Lib.hid (hEL ▸ hL)
  rw [hEL]
  have hbz := Nat.le_refl w.heap.size
  clear hEL hL
  go_enter Try.func21, Try.ntmps21
  go_wp2_with fail
  go_loopw [5, 6] (fun sv iv wr => ∃ (i : Nat) (so : Option Addr) (sc : Nat), i ≤ n ∧ sv = .slice so i sc ∧ iv = .int .i64 i ∧ wr.ownsRow w.heap.size 2 1 (.slice so i sc) i (flatL (EL.take i)) ∧ B w wr) (fun _ iv _ => n + 1 - (intOf iv).toNat)
  case atStart => exact ⟨0, none, 0, Nat.zero_le _, rfl, rfl, World.ownsRow_nil _ _ _ _, B.refl _⟩
  case round =>
    obtain ⟨i, so, sc, hi, rfl, rfl, hown, q⟩ := hrel
    obtain ⟨wo, rfl⟩ : ∃ wo : World, wo = wr := ⟨_, rfl⟩
    by_cases hl : i < n
    · have hlB : decide ((i : Int) < (n : Int)) = true := decide_eq_true (by omega)
      have hlN : decide (i < n) = true := decide_eq_true hl
      have wk1 : IntKind.i64.wrap ((i : Int) + 1) = (i : Int) + 1 := by rw [IntKind.wrap_i64]; omega
      have hn0 : ¬ (n : Int) = 0 := by omega
      have hn0' : ¬ n = 0 := by omega
      have hb3 := q.below.size
      have hi9 : i < 1000 := by omega
      obtain ⟨D, hD⟩ : ∃ D, v.tdiv (n : Int) = D := ⟨_, rfl⟩
      obtain ⟨M, hM⟩ : ∃ M, v.tmod (n : Int) = M := ⟨_, rfl⟩
      have hDb : 0 ≤ D ∧ D ≤ 9223372036854775807 ∧ (2 ≤ n → D ≤ 4611686018427387904) := by
        rw [← hD, Int.tdiv_eq_ediv_of_nonneg (by omega)]
        exact ⟨Int.ediv_nonneg (by omega) (by omega), Int.le_trans (Int.ediv_le_self _ (by omega)) hv.2, fun h2 => Int.ediv_le_of_le_mul (by omega) (by omega)⟩
      have hMb : 0 ≤ M ∧ M < (n : Int) := by
        rw [← hM, Int.tmod_eq_emod_of_nonneg (by omega)]
        exact ⟨Int.emod_nonneg _ (by omega), Int.emod_lt_of_pos _ (by omega)⟩
      have y1 : IntKind.i64.wrap D = D := by rw [IntKind.wrap_i64]; omega
      have y2 : IntKind.i64.wrap M = M := by rw [IntKind.wrap_i64]; omega
      have ht := HT.out i hl
      have hev : evenAt v n i = if (i : Int) < M then D + 1 else D := by unfold evenAt; rw [hD, hM]
      rw [hev] at ht
      by_cases hlt : (i : Int) < M
      · have hltB : decide ((i : Int) < M) = true := decide_eq_true hlt
        rw [if_pos hlt] at ht
        obtain ⟨D1, hD1⟩ : ∃ D1, D + 1 = D1 := ⟨_, rfl⟩
        have hD2 := hDb.2.2 (by omega)
        have y3 : IntKind.i64.wrap (D + 1) = D1 := by rw [IntKind.wrap_i64]; omega
        rw [hD1] at ht
        have HX := Lib.hid (And.intro ht (And.intro hl q))
        clear ht hl hi hlt hev hD1 hMb hDb hD2
        go_wp2_with (at_builtin; refine wpList_append_lies _ rfl _ _ 31 rfl w.heap.size 2 i0 _ 1 8 Try.underlying31 hi0 hz0 hz1 hz2 rfl (by omega) (.slice so i sc) i (flatL (EL.take i)) rfl (own_keepBx hown ((B.refl wo).alloc #[.int .i64 D1] 2)) ⟨_, 0, none⟩ 1 1 [.int .i64 D1] rfl rfl (newest (by simp)) (fun u hu => by simp only [List.mem_cons, List.not_mem_nil, or_false] at hu; subst hu; rfl) (by omega) (by unfold maxLen; omega) (by omega) (by have := ((B.refl wo).alloc #[.int .i64 D1] 2).below.size; omega) _ rfl ?_; intro g1 c1 W4 hown4 hgrow4 hat4 hlt4; have hB4 := (HX.out.2.2.alloc #[.int .i64 D1] 2).grownBy hgrow4 (fun x hx => (hown.lt x hx).1); replace hown4 := Lib.hid (And.intro hown4 hB4); clear hgrow4 hat4 hlt4 hown hB4; go_wp2_with fail)
        go_roundw
        case rel => exact ⟨i + 1, _, _, by have := HX.out.2.1; omega, rfl, by go_num, by rw [HX.out.1]; unfold flatL; rw [List.map_append]; exact hown4.out.1, hown4.out.2⟩
        case measure => have := HX.out.2.1; simp [intOf]; omega
      · have hltB : decide ((i : Int) < M) = false := decide_eq_false hlt
        rw [if_neg hlt] at ht
        have HX := Lib.hid (And.intro ht (And.intro hl q))
        clear ht hl hi hlt hev hMb hDb
        go_wp2_with (at_builtin; refine wpList_append_lies _ rfl _ _ 31 rfl w.heap.size 2 i0 _ 1 8 Try.underlying31 hi0 hz0 hz1 hz2 rfl (by omega) (.slice so i sc) i (flatL (EL.take i)) rfl (own_keepBx hown ((B.refl wo).alloc #[.int .i64 D] 2)) ⟨_, 0, none⟩ 1 1 [.int .i64 D] rfl rfl (newest (by simp)) (fun u hu => by simp only [List.mem_cons, List.not_mem_nil, or_false] at hu; subst hu; rfl) (by omega) (by unfold maxLen; omega) (by omega) (by have := ((B.refl wo).alloc #[.int .i64 D] 2).below.size; omega) _ rfl ?_; intro g1 c1 W4 hown4 hgrow4 hat4 hlt4; have hB4 := (HX.out.2.2.alloc #[.int .i64 D] 2).grownBy hgrow4 (fun x hx => (hown.lt x hx).1); replace hown4 := Lib.hid (And.intro hown4 hB4); clear hgrow4 hat4 hlt4 hown hB4; go_wp2_with fail)
        go_roundw
        case rel => exact ⟨i + 1, _, _, by have := HX.out.2.1; omega, rfl, by go_num, by rw [HX.out.1]; unfold flatL; rw [List.map_append]; exact hown4.out.1, hown4.out.2⟩
        case measure => have := HX.out.2.1; simp [intOf]; omega
    · have hlB : decide ((i : Int) < (n : Int)) = false := decide_eq_false (by omega)
      have hlN : decide (i < n) = false := decide_eq_false hl
      obtain rfl : i = n := by omega
      rw [List.take_of_length_le (by rw [HL.out]; exact Nat.le_refl _)] at hown
      have HX := Lib.hid (And.intro hown q)
      clear hown q hi hl
      go_wp2
      go_ret
      exact ⟨.slice so i sc, rfl, ⟨so, sc, by rw [HL.out], by rw [HL.out]; exact HX.out.1⟩, HX.out.2⟩
theorem r11in_any (v a b : Int) (w : World) : Calls Try.prog 20 #[.int .i64 v, .int .i64 a, .int .i64 b] w fun x w' => x = .returned (.bool (inB v a b)) ∧ w = w' := by
  unfold inB
  cases k1 : decide (a ≤ v)
  · go_enter Try.func20, Try.ntmps20
    go_wp2
    go_ret
    exact ⟨by simp [*], rfl⟩
  · cases k2 : decide (v ≤ b)
    all_goals
      go_enter Try.func20, Try.ntmps20
      go_wp2
      go_ret
      exact ⟨by simp [*], rfl⟩
theorem r11strokes_any (v : Int) (hv : I64 v) (w : World) :
    Calls Try.prog 16 #[.int .i64 v] w fun e w' => ∃ s, e = .returned s ∧ RowZ w' w.heap.size s (strokesL v) ∧ B w w' := by
  obtain ⟨R, hR⟩ : ∃ R, R = strokesL v := ⟨_, rfl⟩
  rw [← hR]
  unfold strokesL at hR
  by_cases h0 : v ≤ 0
  · have h0B : decide (v ≤ 0) = true := decide_eq_true h0
    rw [if_pos h0] at hR
    subst hR
    go_enter Try.func16, Try.ntmps16
    go_wp2
    go_ret
    exact ⟨_, rfl, rowZ_nil _ _, B.refl _⟩
  · have h0B : decide (v ≤ 0) = false := decide_eq_false h0
    rw [if_neg h0] at hR
    obtain ⟨m, hm⟩ : ∃ m : Nat, (min v 4).toNat = m := ⟨_, rfl⟩
    have hmI : min v 4 = (m : Int) := by omega
    have cE := r11even_any v m ⟨by omega, by unfold I64 at hv; omega⟩ (by omega) w
    rw [hm] at hR
    subst hR
    clear hm h0
    go_enter Try.func16, Try.ntmps16
    go_wp2_with fail
    refine cE.mono ?_
    rintro e w1 ⟨s, rfl, hs, q1⟩
    have HS := Lib.hid (And.intro hs q1)
    clear cE hs q1
    go_wp2
    go_ret
    exact ⟨s, rfl, HS.out.1, HS.out.2⟩
set_option maxRecDepth 100000 in
set_option maxHeartbeats 2000000 in
theorem r11parts_any (N : ByteArray) (x y z : Int) (sv : Value) (sl : List Sec) (v : Int) (hv : I64 v) (w : World) (hs : IsSecs w sv sl) :
    Calls Try.prog 11 #[.agg #[.string N, .int .i64 x, .int .i64 y, .int .i64 z, sv], .int .i64 v] w (PartsRes ⟨N, x, y, z, sl⟩ v w) := by
  have cT0 := fun w' (q : B w w') => r8tipright_any N x y z sv sl w' (IsSecs.keepB hs q)
  rw [tipB_ok] at cT0
  obtain ⟨so, sc, rfl⟩ := secs_form hs
  obtain ⟨sn, hsn⟩ : ∃ sn, sl.length = sn := ⟨_, rfl⟩
  rw [hsn] at cT0 ⊢
  have q0 : B w (w.alloc (.cells #[.string N, .int .i64 x, .int .i64 y, .int .i64 z, .slice so sn sc] 24)) := (B.refl w).alloc _ _
  have oT := obj_new w (.cells #[.string N, .int .i64 x, .int .i64 y, .int .i64 z, .slice so sn sc] 24)
  have k0 := obj_cell oT 0
  have k1 := obj_cell oT 1
  have k2 := obj_cell oT 2
  have k3 := obj_cell oT 3
  have k4 := obj_cell oT 4
  have cT := cT0
  have cW := fun w' => r11in_any v 1 20000000 w'
  obtain ⟨R, hR⟩ : ∃ R, R = partsX ⟨N, x, y, z, sl⟩ v := ⟨_, rfl⟩
  unfold PartsRes
  rw [← hR]
  unfold partsX at hR
  simp only at hR
  clear hs hsn cT0
  cases hok : tipOk ⟨N, x, y, z, sl⟩ with
  | false =>
    rw [hok] at cT hR
    simp only [Bool.false_eq_true, if_false] at hR
    have HR := Lib.hid hR
    clear hR hok cW
    go_enter Try.func11, Try.ntmps11
    go_wp2_with fail
    refine (cT _ q0).mono ?_
    rintro e w1 ⟨rfl, q1⟩
    have HQ := Lib.hid (q0.trans q1)
    clear cT q0 q1 oT
    go_wp2
    go_ret2
    exact .inl ⟨28, HR.out, rfl, HQ.out⟩
  | true =>
    have hb : 1 ≤ x ∧ x ≤ 20000000 ∧ 0 ≤ z ∧ z ≤ 10000 := by
      have h := hok
      unfold tipOk at h
      simp only [Bool.and_eq_true, inB, decide_eq_true_eq] at h
      omega
    rw [hok] at cT hR
    simp only [if_true] at hR
    cases hin : inB v 1 20000000 with
    | false =>
      rw [hin] at cW hR
      simp only [Bool.false_eq_true, if_false] at hR
      have HR := Lib.hid hR
      clear hR hok hin hb
      go_enter Try.func11, Try.ntmps11
      go_wp2_with fail
      refine (cT _ q0).mono ?_
      rintro e w1 ⟨rfl, q1⟩
      have HQ := Lib.hid (q0.trans q1)
      clear cT q0 q1 oT
      go_wp2_with fail
      refine (cW _).mono ?_
      rintro e w2 ⟨rfl, rfl⟩
      go_wp2
      go_ret2
      exact .inl ⟨20, HR.out, rfl, HQ.out⟩
    | true =>
      have hvv : 1 ≤ v ∧ v ≤ 20000000 := by unfold inB at hin; simp only [Bool.and_eq_true, decide_eq_true_eq] at hin; exact hin
      rw [hin] at cW hR
      simp only [if_true] at hR
      obtain ⟨Z4, hZ4⟩ : ∃ Z4, 4 * z = Z4 := ⟨_, rfl⟩
      obtain ⟨M, hM⟩ : ∃ M, x - Z4 = M := ⟨_, rfl⟩
      have w1 : IntKind.i64.wrap (4 * z) = Z4 := by rw [IntKind.wrap_i64]; omega
      have w2 : IntKind.i64.wrap (x - Z4) = M := by rw [IntKind.wrap_i64]; omega
      rw [hZ4, hM] at hR
      have hM1 : -40000 ≤ M ∧ M ≤ 20000000 := by omega
      clear hok hin hb hM hZ4
      by_cases hm : M < 1
      · have hmB : decide (M ≤ 0) = true := decide_eq_true (by omega)
        rw [if_pos hm] at hR
        have HR := Lib.hid hR
        clear hR hm hM1 hvv
        go_enter Try.func11, Try.ntmps11
        go_wp2_with fail
        refine (cT _ q0).mono ?_
        rintro e w1 ⟨rfl, q1⟩
        have HQ := Lib.hid (q0.trans q1)
        replace k1 := q1.keep k1
        replace k3 := q1.keep k3
        clear cT q0 q1 oT
        go_wp2_with fail
        refine (cW _).mono ?_
        rintro e w2 ⟨rfl, rfl⟩
        go_wp2
        go_ret2
        exact .inl ⟨33, HR.out, rfl, HQ.out⟩
      · have hmB : decide (M ≤ 0) = false := decide_eq_false (by omega)
        have hm0 : ¬ M = 0 := by omega
        obtain ⟨p1, p2⟩ := parts_nums hvv ⟨by omega, hM1.2⟩
        rw [if_neg hm] at hR
        obtain ⟨S, hS⟩ : ∃ S, v + M = S := ⟨_, rfl⟩
        obtain ⟨S1, hS1⟩ : ∃ S1, S - 1 = S1 := ⟨_, rfl⟩
        have w3 : IntKind.i64.wrap (v + M) = S := by rw [IntKind.wrap_i64]; omega
        have w4 : IntKind.i64.wrap (S - 1) = S1 := by rw [IntKind.wrap_i64]; omega
        rw [hS, hS1] at p1 p2 hR
        obtain ⟨P, hP⟩ : ∃ P : Nat, S1.tdiv M = (P : Int) := ⟨(S1.tdiv M).toNat, by omega⟩
        rw [hP] at p1 p2 hR
        have w5 : IntKind.i64.wrap (P : Int) = (P : Int) := by rw [IntKind.wrap_i64]; omega
        have hP' := Lib.hid hP
        clear hS hS1 hm hM1
        by_cases hp : 1000 < (P : Int)
        · have hpB : decide (1000 < (P : Int)) = true := decide_eq_true hp
          have hpN : decide (1000 < P) = true := decide_eq_true (by omega)
          rw [if_pos hp] at hR
          have HR := Lib.hid hR
          clear hR hp p1 p2 hvv
          go_enter Try.func11, Try.ntmps11
          go_wp2_with fail
          refine (cT _ q0).mono ?_
          rintro e w1 ⟨rfl, q1⟩
          have HQ := Lib.hid (q0.trans q1)
          replace k1 := q1.keep k1
          replace k3 := q1.keep k3
          clear cT q0 q1 oT
          go_wp2_with fail
          refine (cW _).mono ?_
          rintro e w2 ⟨rfl, rfl⟩
          go_wp2
          go_ret2
          exact .inl ⟨33, HR.out, rfl, HQ.out⟩
        · have hpB : decide (1000 < (P : Int)) = false := decide_eq_false hp
          have hpN : decide (1000 < P) = false := decide_eq_false (by omega)
          rw [if_neg hp, show ((P : Int)).toNat = P by omega] at hR
          have cE := fun w' => r11even_any v P ⟨by omega, by omega⟩ (by omega) w'
          have HR := Lib.hid hR
          clear hR hp p1 p2 hvv
          go_enter Try.func11, Try.ntmps11
          go_wp2_with fail
          refine (cT _ q0).mono ?_
          rintro e w1 ⟨rfl, q1⟩
          have HQ := Lib.hid (q0.trans q1)
          replace k1 := q1.keep k1
          replace k3 := q1.keep k3
          clear cT q0 q1 oT
          go_wp2_with fail
          refine (cW _).mono ?_
          rintro e w2 ⟨rfl, rfl⟩
          go_wp2_with fail
          refine (cE _).mono ?_
          rintro e w3 ⟨s, rfl, hs, q3⟩
          have HS := Lib.hid (And.intro (hs.low HQ.out.below.size) (HQ.out.trans q3))
          clear cE hs q3
          go_wp2
          go_ret2
          exact .inr ⟨_, s, HR.out, rfl, HS.out.1, HS.out.2⟩
set_option maxRecDepth 100000 in
set_option maxHeartbeats 2000000 in
theorem r11count_any (N : ByteArray) (x y z : Int) (sv : Value) (sl : List Sec) (v : Int) (hv : I64 v) (w : World) (hs : IsSecs w sv sl) :
    Calls Try.prog 13 #[.agg #[.string N, .int .i64 x, .int .i64 y, .int .i64 z, sv], .int .i64 v] w fun e w' => e = .returned (cntV (partsX ⟨N, x, y, z, sl⟩ v)) ∧ B w w' := by
  have cP := fun w' (q : B w w') => r11parts_any N x y z sv sl v hv w' (IsSecs.keepB hs q)
  obtain ⟨so, sc, rfl⟩ := secs_form hs
  obtain ⟨sn, hsn⟩ : ∃ sn, sl.length = sn := ⟨_, rfl⟩
  rw [hsn] at cP ⊢
  have q0 : B w (w.alloc (.cells #[.string N, .int .i64 x, .int .i64 y, .int .i64 z, .slice so sn sc] 24)) := (B.refl w).alloc _ _
  have hpb := fun l h => parts_bounds (t := ⟨N, x, y, z, sl⟩) (v := v) (l := l) h
  clear hs hsn hv
  go_enter Try.func13, Try.ntmps13
  go_wp2_with fail
  refine (cP _ q0).mono ?_
  rintro e w1 (⟨n, hp, rfl, q1⟩ | ⟨l, s, hp, rfl, hs, q1⟩)
  · have HQ := Lib.hid (q0.trans q1)
    have HP := Lib.hid hp
    clear cP q0 q1 hp hpb
    go_wp2_with fail
    go_loopw [8, 9] (fun nv iv wr => nv = .int .i64 0 ∧ iv = .int .i64 0 ∧ wr = w1) (fun _ _ _ => 1)
    case atStart => exact ⟨rfl, rfl, rfl⟩
    case round =>
      obtain ⟨rfl, rfl, rfl⟩ := hrel
      go_wp2
      go_ret2
      exact ⟨by rw [HP.out]; rfl, HQ.out⟩
  · obtain ⟨hl1, hl2⟩ := hpb l hp
    have HP := Lib.hid (And.intro hp (And.intro hl2 (q0.trans q1)))
    obtain ⟨o, c, rfl, hrow⟩ := hs
    obtain ⟨ln, hln⟩ : ∃ ln, l.length = ln := ⟨_, rfl⟩
    rw [hln] at hrow hl1 ⊢
    have HL := Lib.hid (And.intro hln hrow)
    clear cP q0 q1 hp hpb hl2 hln hrow
    go_wp2_with fail
    go_loopw [8, 9] (fun nv iv wr => ∃ i : Nat, i ≤ ln ∧ nv = .int .i64 (cntL (l.take i)) ∧ iv = .int .i64 i ∧ 0 ≤ cntL (l.take i) ∧ cntL (l.take i) ≤ 4 * (i : Int) ∧ B w1 wr) (fun _ iv _ => ln + 1 - (intOf iv).toNat)
    case atStart => exact ⟨0, Nat.zero_le _, rfl, rfl, by show (0 : Int) ≤ 0; omega, by show (0 : Int) ≤ 0; omega, B.refl _⟩
    case round =>
      obtain ⟨i, hi, rfl, rfl, hn0, hn1, q⟩ := hrel
      obtain ⟨wo, rfl⟩ : ∃ wo : World, wo = wr := ⟨_, rfl⟩
      by_cases hl : i < ln
      · have hlB : decide ((i : Int) < (ln : Int)) = true := decide_eq_true (by omega)
        have hlN : decide (i < ln) = true := decide_eq_true hl
        have hlI : (i : Int) < (ln : Int) := by omega
        have hi0 : (0 : Int) ≤ (i : Int) := by omega
        have wk1 : IntKind.i64.wrap ((i : Int) + 1) = (i : Int) + 1 := by rw [IntKind.wrap_i64]; omega
        have hrw := own_keepBx HL.out.2 q
        obtain ⟨g, hg, _, _, _⟩ := own_full hrw (by omega)
        subst hg
        have hget : l[i]? = some (l.getD i 0) := getD_of (by rw [HL.out.1]; exact hl)
        have y0 := hrw.cellAt i (by omega)
        rw [flatL_get hget] at y0
        obtain ⟨u, hu⟩ : ∃ u, l.getD i 0 = u := ⟨_, rfl⟩
        rw [hu] at y0 hget
        have hub := HP.out.2.1 u (List.mem_of_getElem? hget)
        have cS := r11strokes_any u (by unfold I64; omega) wo
        have htk := cntL_take l hget
        have hlen := strokesL_len hub.1
        have hpc := pcs_nums hub.1
        obtain ⟨sl2, hsl2⟩ : ∃ sl2, (strokesL u).length = sl2 := ⟨_, rfl⟩
        rw [hsl2] at htk hlen
        obtain ⟨C0, hC0⟩ : ∃ C0, cntL (l.take i) = C0 := ⟨_, rfl⟩
        rw [hC0] at htk hn0 hn1 ⊢
        have wk2 : IntKind.i64.wrap (C0 + (sl2 : Int)) = C0 + (sl2 : Int) := by rw [IntKind.wrap_i64]; omega
        have HX := Lib.hid (And.intro htk (And.intro (show 0 ≤ C0 + (sl2 : Int) ∧ C0 + (sl2 : Int) ≤ 4 * ((i + 1 : Nat) : Int) by omega) (And.intro hl (And.intro q hsl2))))
        clear hl hi hn0 hn1 hrw hget hu hub htk hlen hpc hsl2 hC0 q
        go_wp2_with fail
        refine cS.mono ?_
        rintro e w3 ⟨s3, rfl, ⟨o3, c3, rfl, _⟩, q3⟩
        rw [HX.out.2.2.2.2]
        have HY := Lib.hid (HX.out.2.2.2.1.trans q3)
        clear cS q3 y0
        go_wp2
        go_roundw
        case rel => exact ⟨i + 1, by have := HX.out.2.2.1; omega, by rw [HX.out.1], by go_num, by rw [HX.out.1]; exact HX.out.2.1.1, by rw [HX.out.1]; exact HX.out.2.1.2, HY.out⟩
        case measure => have := HX.out.2.2.1; simp [intOf]; omega
      · have hlB : decide ((i : Int) < (ln : Int)) = false := decide_eq_false (by omega)
        have hlN : decide (i < ln) = false := decide_eq_false hl
        obtain rfl : i = ln := by omega
        have e9 : l.take i = l := List.take_of_length_le (by rw [HL.out.1]; exact Nat.le_refl _)
        rw [e9]
        obtain ⟨C0, hC0⟩ : ∃ C0, cntL l = C0 := ⟨_, rfl⟩
        rw [hC0]
        have HX := Lib.hid (And.intro hC0 (HP.out.2.2.trans q))
        clear hl hi hn0 hn1 q e9 hC0
        go_wp2
        go_ret2
        exact ⟨by rw [HP.out.1]; unfold cntV; simp only; rw [HX.out.1]; rfl, HX.out.2⟩
end Go.Proofs.Ytiblhebenhiijaa

namespace Go.Proofs.Ytiblhebenhiijaa
open Go.RowKit
theorem light_any (v : Value) (l : List Sec) (w : World) (hv : IsSecs w v l) (b : Bool) (hb : decide ((l.length : Int) ≤ 6) = b) :
    Calls Try.prog 8 #[v] w fun e w' => e = .returned (.bool b) ∧ w = w' := by
  obtain ⟨va, vc, rfl⟩ : ∃ va vc, v = .slice va l.length vc := by
    rcases hv with ⟨rfl, rfl⟩ | ⟨b, cb, rfl, _⟩
    · exact ⟨_, _, rfl⟩
    · exact ⟨_, _, rfl⟩
  clear hv
  go_enter Try.func8, Try.ntmps8
  go_wp2
  go_ret
  exact ⟨rfl, rfl⟩
end Go.Proofs.Ytiblhebenhiijaa
