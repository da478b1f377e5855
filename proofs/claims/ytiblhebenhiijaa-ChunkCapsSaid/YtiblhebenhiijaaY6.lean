/-
  Layer 16: the walk of ChunkTells; Layer 16: the laws over the code's own parts, strokes and counts; Arguments opened: a slice of sections; Arguments opened: a tip, by value.
-/
import Derived.Test.YtiblhebenhiijaaChecked
import Derived.ProofKit
import Derived.OpenShut
import Derived.Deep.Slices
import Derived.ChangeArms
import Derived.Lib.MinMax
import Derived.Deep.QuietTactic
import Derived.BigQuiet
import Derived.Lib.ItoaMem
import Derived.Lib.Strings
import Derived.Test.YtiblhebenhiijaaY1
import Derived.Test.YtiblhebenhiijaaY2
import Derived.Test.YtiblhebenhiijaaY3
import Derived.Test.YtiblhebenhiijaaY4
import Derived.Test.YtiblhebenhiijaaY5
namespace Go.Proofs.Ytiblhebenhiijaa
open Go.RowKit
set_option linter.unusedVariables false
set_option maxRecDepth 100000 in
set_option maxHeartbeats 4000000 in
theorem tells16_law (c : ChunkC) (d : CountC) (s : ByteArray) (rx ry rz : Int) (vo : Value) (L : List Sec) (k cap err v nn : Int) (hk : (Lit.int .u8 k).wf = true) (hc : (Lit.int .u32 cap).wf = true) (he : (Lit.int .u16 err).wf = true) (hv : (Lit.int .i64 v).wf = true) (hn : (Lit.int .u32 nn).wf = true) (w : World) (hvo : IsSecs w vo L) : Calls Try.prog 3 #[.agg #[.string s, .int .i64 rx, .int .i64 ry, .int .i64 rz, vo], .int .u8 k, .int .u32 cap, .int .u16 err, .int .i64 v, .int .u32 nn] w fun e w' => e = .returned (.bool true) ∧ B w w' := by
  obtain ⟨k1, k2⟩ := u8_wf hk
  obtain ⟨c1, c2'⟩ := u32_wf hc
  obtain ⟨e1, e2⟩ := u16_wf he
  obtain ⟨v1, v2⟩ := i64_wf hv
  obtain ⟨nn1, nn2⟩ := u32_wf hn
  clear hk hc he hn hv
  have c0 := fun w => known16_any c d w
  have c2 := fun w => outer_any k k1 k2 w
  obtain ⟨ov, nv, cv, rfl⟩ := hvo.form
  have cL := fun b w h hb => light_any (.slice ov nv cv) L w h b hb
  by_cases h1 : 6 < L.length
  · replace cL := fun w h => cL false w h (decide_eq_false (by omega))
    have HS := Lib.hid hvo
    clear hvo
    go_enter Try.func3, Try.ntmps3
    go_wp2_with fail
    have obr := obj_new w (.cells #[.string s, .int .i64 rx, .int .i64 ry, .int .i64 rz, .slice ov nv cv] 24)
    have g : B w (w.alloc (.cells #[.string s, .int .i64 rx, .int .i64 ry, .int .i64 rz, .slice ov nv cv] 24)) := (B.refl w).alloc _ _
    have hs := HS.out.keepB g
    generalize w.alloc (.cells #[.string s, .int .i64 rx, .int .i64 ry, .int .i64 rz, .slice ov nv cv] 24) = W0 at *
    generalize w.heap.size = br at *
    refine (c0 _).mono ?_
    rintro e w1 ⟨rfl, q⟩
    replace g := g.trans q
    replace hs := hs.keepB q
    replace obr := q.obj obr
    have rk0 := obj_cell obr 0
    have rk1 := obj_cell obr 1
    have rk2 := obj_cell obr 2
    have rk3 := obj_cell obr 3
    have rk4 := obj_cell obr 4
    clear q
    go_wp2_with fail
    refine (cL _ hs).mono ?_
    rintro e w2 ⟨rfl, rfl⟩
    go_wp2
    go_ret
    exact ⟨rfl, g⟩
  replace cL := fun w h => cL true w h (decide_eq_true (by omega))
  by_cases h2 : 30 < s.size
  · have h2B : decide ((30 : Int) < (s.size : Int)) = true := decide_eq_true (by omega)
    have HS := Lib.hid hvo
    clear hvo
    go_enter Try.func3, Try.ntmps3
    go_wp2_with fail
    have obr := obj_new w (.cells #[.string s, .int .i64 rx, .int .i64 ry, .int .i64 rz, .slice ov nv cv] 24)
    have g : B w (w.alloc (.cells #[.string s, .int .i64 rx, .int .i64 ry, .int .i64 rz, .slice ov nv cv] 24)) := (B.refl w).alloc _ _
    have hs := HS.out.keepB g
    generalize w.alloc (.cells #[.string s, .int .i64 rx, .int .i64 ry, .int .i64 rz, .slice ov nv cv] 24) = W0 at *
    generalize w.heap.size = br at *
    refine (c0 _).mono ?_
    rintro e w1 ⟨rfl, q⟩
    replace g := g.trans q
    replace hs := hs.keepB q
    replace obr := q.obj obr
    have rk0 := obj_cell obr 0
    have rk1 := obj_cell obr 1
    have rk2 := obj_cell obr 2
    have rk3 := obj_cell obr 3
    have rk4 := obj_cell obr 4
    clear q
    go_wp2_with fail
    refine (cL _ hs).mono ?_
    rintro e w2 ⟨rfl, rfl⟩
    go_wp2
    go_ret
    exact ⟨rfl, g⟩
  have h2B : decide ((30 : Int) < (s.size : Int)) = false := decide_eq_false (by omega)
  clear h1 h2
  obtain ⟨cz, ecz⟩ : ∃ z, cap % 300000 = z := ⟨_, rfl⟩
  have tcz : cap.tmod 300000 = cz := by rw [Int.tmod_eq_emod_of_nonneg (by omega)]; exact ecz
  have bcz : 0 ≤ cz ∧ cz < 300000 := by omega
  have xcz : IntKind.i64.wrap cz = cz := wrapI (by omega) (by omega)
  have ycz : IntKind.u32.wrap cz = cz := wrapU32 (by omega) (by omega)
  obtain ⟨E1, eE1⟩ : ∃ z, err % 10001 = z := ⟨_, rfl⟩
  have tE1 : err.tmod 10001 = E1 := by rw [Int.tmod_eq_emod_of_nonneg (by omega)]; exact eE1
  have bE1 : 0 ≤ E1 ∧ E1 < 10001 := by omega
  have xE1 : IntKind.i64.wrap E1 = E1 := wrapI (by omega) (by omega)
  have yE1 : IntKind.u16.wrap E1 = E1 := wrapU16 (by omega) (by omega)
  obtain ⟨E2, eE2⟩ : ∃ z, err % 60 = z := ⟨_, rfl⟩
  have tE2 : err.tmod 60 = E2 := by rw [Int.tmod_eq_emod_of_nonneg (by omega)]; exact eE2
  have bE2 : 0 ≤ E2 ∧ E2 < 60 := by omega
  have xE2 : IntKind.i64.wrap E2 = E2 := wrapI (by omega) (by omega)
  have yE2 : IntKind.u16.wrap E2 = E2 := wrapU16 (by omega) (by omega)
  obtain ⟨n0, en0⟩ : ∃ z, nn % 20000000 = z := ⟨_, rfl⟩
  have tn0 : nn.tmod 20000000 = n0 := by rw [Int.tmod_eq_emod_of_nonneg (by omega)]; exact en0
  have bn0 : 0 ≤ n0 ∧ n0 < 20000000 := by omega
  have xn0 : IntKind.i64.wrap n0 = n0 := wrapI (by omega) (by omega)
  have yn0 : IntKind.u32.wrap n0 = n0 := wrapU32 (by omega) (by omega)
  obtain ⟨n5, en5⟩ : ∃ z, nn % 5000 = z := ⟨_, rfl⟩
  have tn5 : nn.tmod 5000 = n5 := by rw [Int.tmod_eq_emod_of_nonneg (by omega)]; exact en5
  have bn5 : 0 ≤ n5 ∧ n5 < 5000 := by omega
  have xn5 : IntKind.i64.wrap n5 = n5 := wrapI (by omega) (by omega)
  have yn5 : IntKind.u32.wrap n5 = n5 := wrapU32 (by omega) (by omega)
  obtain ⟨n9, en9⟩ : ∃ z, nn % 9 = z := ⟨_, rfl⟩
  have tn9 : nn.tmod 9 = n9 := by rw [Int.tmod_eq_emod_of_nonneg (by omega)]; exact en9
  have bn9 : 0 ≤ n9 ∧ n9 < 9 := by omega
  have xn9 : IntKind.i64.wrap n9 = n9 := wrapI (by omega) (by omega)
  have yn9 : IntKind.u32.wrap n9 = n9 := wrapU32 (by omega) (by omega)
  obtain ⟨cp, ecp⟩ : ∃ z, cz + 1 = z := ⟨_, rfl⟩
  have wcp : IntKind.i64.wrap (cz + 1) = cp := by rw [ecp]; exact wrapI (by omega) (by omega)
  obtain ⟨x1, ex1⟩ : ∃ z, n0 + 1 = z := ⟨_, rfl⟩
  have wx1 : IntKind.i64.wrap (n0 + 1) = x1 := by rw [ex1]; exact wrapI (by omega) (by omega)
  obtain ⟨x2, ex2⟩ : ∃ z, n5 + 1 = z := ⟨_, rfl⟩
  have wx2 : IntKind.i64.wrap (n5 + 1) = x2 := by rw [ex2]; exact wrapI (by omega) (by omega)
  obtain ⟨x3, ex3⟩ : ∃ z, n9 - 2 = z := ⟨_, rfl⟩
  have wx3 : IntKind.i64.wrap (n9 - 2) = x3 := by rw [ex3]; exact wrapI (by omega) (by omega)
  have i0 : I64 v := by unfold I64; omega
  have i1 : I64 x1 := by unfold I64; omega
  have i2 : I64 x2 := by unfold I64; omega
  have i3 : I64 x3 := by unfold I64; omega
  have HI := Lib.hid (And.intro i0 (And.intro i1 (And.intro i2 i3)))
  clear i0 i1 i2 i3 ex1 ex2 ex3 ecp
  have LO := Lib.hid (outer_right (k % 3).toNat)
  generalize outerOf (k % 3).toNat = lo at *
  have HS := Lib.hid hvo
  clear hvo
  go_enter Try.func3, Try.ntmps3
  go_wp2_with fail
  have obr := obj_new w (.cells #[.string s, .int .i64 rx, .int .i64 ry, .int .i64 rz, .slice ov nv cv] 24)
  have g : B w (w.alloc (.cells #[.string s, .int .i64 rx, .int .i64 ry, .int .i64 rz, .slice ov nv cv] 24)) := (B.refl w).alloc _ _
  have hs := HS.out.keepB g
  generalize w.alloc (.cells #[.string s, .int .i64 rx, .int .i64 ry, .int .i64 rz, .slice ov nv cv] 24) = W0 at *
  generalize w.heap.size = br at *
  refine (c0 _).mono ?_
  rintro e w1 ⟨rfl, q⟩
  replace g := g.trans q
  replace hs := hs.keepB q
  replace obr := q.obj obr
  have rk0 := obj_cell obr 0
  have rk1 := obj_cell obr 1
  have rk2 := obj_cell obr 2
  have rk3 := obj_cell obr 3
  have rk4 := obj_cell obr 4
  clear q
  go_wp2_with fail
  refine (cL _ hs).mono ?_
  rintro e w2 ⟨rfl, rfl⟩
  go_wp2_with fail
  refine (c2 _).mono ?_
  rintro e w3 ⟨v2, rfl, hv2, q2⟩
  obtain ⟨oo2, nn2, pp2, rfl⟩ := hv2.form
  replace g := g.trans q2.b
  replace hs := hs.keepB q2.b
  replace obr := q2.b.obj obr
  have rk0 := obj_cell obr 0
  have rk1 := obj_cell obr 1
  have rk2 := obj_cell obr 2
  have rk3 := obj_cell obr 3
  have rk4 := obj_cell obr 4
  have hbr : br < w3.heap.size := obj_lt obr
  clear q2 c2 c0 cL
  go_wp2
  obtain ⟨W4, hW4⟩ : ∃ W4, W4 = (w3.alloc (.cells #[.string ⟨#[116]⟩, .int .i64 cp, .int .i64 9000, .int .i64 E1, .slice oo2 nn2 pp2] 24)).alloc (.cells #[.string ⟨#[116]⟩, .int .i64 cp, .int .i64 9000, .int .i64 E2, .slice oo2 nn2 pp2] 24) := ⟨_, rfl⟩
  have hsz : W4.heap.size = w3.heap.size + 1 + 1 := by rw [hW4]; simp
  have q4 : B w3 W4 := by rw [hW4]; exact ((B.refl w3).alloc _ _).alloc _ _
  rw [← hW4, ← hsz]
  replace g := g.trans q4
  replace hs := hs.keepB q4
  replace hv2 := hv2.keepB q4
  have ob := obj_new W4 (.cells #[.string s, .int .i64 rx, .int .i64 ry, .int .i64 rz, .slice ov nv cv, .string ⟨#[116]⟩, .int .i64 cp, .int .i64 9000, .int .i64 E1, .slice oo2 nn2 pp2, .string ⟨#[116]⟩, .int .i64 cp, .int .i64 9000, .int .i64 E2, .slice oo2 nn2 pp2] 24)
  have qa : B W4 (W4.alloc (.cells #[.string s, .int .i64 rx, .int .i64 ry, .int .i64 rz, .slice ov nv cv, .string ⟨#[116]⟩, .int .i64 cp, .int .i64 9000, .int .i64 E1, .slice oo2 nn2 pp2, .string ⟨#[116]⟩, .int .i64 cp, .int .i64 9000, .int .i64 E2, .slice oo2 nn2 pp2] 24)) := (B.refl _).alloc _ _
  replace g := g.trans qa
  replace hs := hs.keepB qa
  replace hv2 := hv2.keepB qa
  generalize W4.alloc (.cells #[.string s, .int .i64 rx, .int .i64 ry, .int .i64 rz, .slice ov nv cv, .string ⟨#[116]⟩, .int .i64 cp, .int .i64 9000, .int .i64 E1, .slice oo2 nn2 pp2, .string ⟨#[116]⟩, .int .i64 cp, .int .i64 9000, .int .i64 E2, .slice oo2 nn2 pp2] 24) = W1 at *
  generalize W4.heap.size = bb at *
  have T3 : ∀ j : Nat, j < 3 → ∃ N x y z o n cn sl, W1.cell? ⟨bb, j * 5, none⟩ = some (.string N) ∧ W1.cell? ⟨bb, j * 5 + 1, none⟩ = some (.int .i64 x) ∧ W1.cell? ⟨bb, j * 5 + 2, none⟩ = some (.int .i64 y) ∧ W1.cell? ⟨bb, j * 5 + 3, none⟩ = some (.int .i64 z) ∧ W1.cell? ⟨bb, j * 5 + 4, none⟩ = some (.slice o n cn) ∧ IsSecs W1 (.slice o n cn) sl := fun j hj => by
    match j, hj with
    | 0, _ => exact ⟨s, rx, ry, rz, ov, nv, cv, L, obj_cell ob 0, obj_cell ob 1, obj_cell ob 2, obj_cell ob 3, obj_cell ob 4, hs⟩
    | 1, _ => exact ⟨_, cp, 9000, E1, oo2, nn2, pp2, lo, obj_cell ob 5, obj_cell ob 6, obj_cell ob 7, obj_cell ob 8, obj_cell ob 9, hv2⟩
    | 2, _ => exact ⟨_, cp, 9000, E2, oo2, nn2, pp2, lo, obj_cell ob 10, obj_cell ob 11, obj_cell ob 12, obj_cell ob 13, obj_cell ob 14, hv2⟩
  have G0 := Lib.hid g
  clear g hs hv2 ob qa q4 hW4 rk0 rk1 rk2 rk3 rk4 obr hbr
  obtain ⟨bu, hbu⟩ : ∃ bu, w3.heap.size + 1 = bu := ⟨_, rfl⟩
  rw [hbu] at hsz ⊢
  obtain ⟨bt, hbt⟩ : ∃ bt, w3.heap.size = bt := ⟨_, rfl⟩
  rw [hbt] at ⊢
  clear hsz hbu hbt
  go_loopw [59] (fun i wr => ∃ m : Nat, m ≤ 3 ∧ i = .int .i64 m ∧ B W1 wr) (fun i _ => 3 - (intOf i).toNat)
  case atStart => exact ⟨0, Nat.zero_le _, rfl, B.refl _⟩
  case round =>
    obtain ⟨m, hm, rfl, g⟩ := hrel
    obtain ⟨wl, rfl⟩ : ∃ wl : World, wl = wr := ⟨_, rfl⟩
    by_cases hm3 : m < 3
    · have hmB : decide ((m : Int) < 3) = true := decide_eq_true (by omega)
      have hmI : (m : Int) < 3 := by omega
      have hm0 : (0 : Int) ≤ (m : Int) := by omega
      obtain ⟨N, x, y, z, o, n, cn, sl, a0, a1, a2, a3, a4, hs⟩ := T3 m hm3
      replace a0 := g.keep a0
      replace a1 := g.keep a1
      replace a2 := g.keep a2
      replace a3 := g.keep a3
      replace a4 := g.keep a4
      replace hs := hs.keepB g
      go_wp2
      obtain ⟨W5, hW5⟩ : ∃ W5, W5 = wl.alloc (.cells #[.string N, .int .i64 x, .int .i64 y, .int .i64 z, .slice o n cn] 24) := ⟨_, rfl⟩
      have obt : W5.heap[wl.heap.size]? = some (.cells #[.string N, .int .i64 x, .int .i64 y, .int .i64 z, .slice o n cn] 24 ) := by rw [hW5]; exact obj_new _ _
      have hsz5 : W5.heap.size = wl.heap.size + 1 := by rw [hW5]; simp
      have q5 : B wl W5 := by rw [hW5]; exact (B.refl wl).alloc _ _
      rw [← hW5, ← hsz5]
      have obn := obj_new W5 (.cells #[.int .i64 v, .int .i64 x1, .int .i64 x2, .int .i64 x3] 2)
      have q6 : B W5 (W5.alloc (.cells #[.int .i64 v, .int .i64 x1, .int .i64 x2, .int .i64 x3] 2)) := (B.refl _).alloc _ _
      replace obt := q6.obj obt
      replace g := (g.trans q5).trans q6
      replace hs := (hs.keepB q5).keepB q6
      clear hW5
      generalize W5.alloc (.cells #[.int .i64 v, .int .i64 x1, .int .i64 x2, .int .i64 x3] 2) = W6 at *
      obtain ⟨bn, hbn⟩ : ∃ z, W5.heap.size = z := ⟨_, rfl⟩
      rw [hbn] at obn ⊢
      obtain ⟨bx, hbx⟩ : ∃ z, wl.heap.size = z := ⟨_, rfl⟩
      rw [hbx] at obt ⊢
      clear q5 q6 hsz5 hbn hbx a0 a1 a2 a3 a4
      have T4 : ∀ j : Nat, j < 4 → ∃ X, W6.cell? ⟨bn, j, none⟩ = some (.int .i64 X) ∧ I64 X := fun j hj => by
        have hi := HI.out
        match j, hj with
        | 0, _ => exact ⟨v, obj_cell obn 0, hi.1⟩
        | 1, _ => exact ⟨x1, obj_cell obn 1, hi.2.1⟩
        | 2, _ => exact ⟨x2, obj_cell obn 2, hi.2.2.1⟩
        | 3, _ => exact ⟨x3, obj_cell obn 3, hi.2.2.2⟩
      have HB := Lib.hid (And.intro g (And.intro hs obt))
      clear g hs obt obn
      go_loopw [78] (fun i wr => ∃ j : Nat, j ≤ 4 ∧ i = .int .i64 j ∧ B W6 wr) (fun i _ => 4 - (intOf i).toNat)
      case atStart => exact ⟨0, Nat.zero_le _, rfl, B.refl _⟩
      case round =>
        obtain ⟨j, hj, rfl, g⟩ := hrel
        obtain ⟨wi, rfl⟩ : ∃ wi : World, wi = wr := ⟨_, rfl⟩
        by_cases hj4 : j < 4
        · have hjB : decide ((j : Int) < 4) = true := decide_eq_true (by omega)
          have hjI : (j : Int) < 4 := by omega
          have hj0 : (0 : Int) ≤ (j : Int) := by omega
          obtain ⟨X, hcx, iX⟩ := T4 j hj4
          replace hcx := g.keep hcx
          have hs := HB.out.2.1.keepB g
          have ob := g.obj HB.out.2.2
          have k0 := obj_cell ob 0
          have k1 := obj_cell ob 1
          have k2 := obj_cell ob 2
          have k3 := obj_cell ob 3
          have k4 := obj_cell ob 4
          cases hp : partsX ⟨N, x, y, z, sl⟩ X with
          | error nE =>
            have cA := fun w h => (c.parts N x y z (.slice o n cn) sl X w iX h).mono fun _ _ h => partsRes_err hp h
            have cB := fun w h => (r11parts_any N x y z (.slice o n cn) sl X iX w h).mono fun _ _ h => partsRes_err hp h
            have cC := fun w h => d.count N x y z (.slice o n cn) sl X w iX h
            have cD := fun w h => r11count_any N x y z (.slice o n cn) sl X iX w h
            rw [hp] at cC cD
            simp only [cntV] at cC cD
            have cS := fun w => c.str (v := X) iX w
            have cR := fun w => (r11strokes_any X iX w).mono fun e w' h => (show ∃ o cp, e = .returned (.slice o (strokesL X).length cp) ∧ IsZ w' o (strokesL X) ∧ B w w' by obtain ⟨s, h1, h2, h3⟩ := h; obtain ⟨o, cp, rfl, hz⟩ := h2.isZ; exact ⟨o, cp, h1, hz, h3⟩)
            have hls := strokes_le4 X
            have cL4 := fun o1 o2 c1 c2 w h1 h2 => longs_z o1 o2 c1 c2 (strokesL X) (by omega) w h1 h2
            have cLp := fun w => longs_z none none 0 0 [] (by simp) w (fun i x h => by simp at h) (fun i x h => by simp at h)
            rw [show ([] : List Int).length = 0 from rfl] at cLp
            generalize strokesL X = LS at *
            have HPX := Lib.hid hp
            clear hp hls
            go_wp2_with fail
            refine (cA _ hs).mono ?_
            rintro e wS ⟨rfl, q⟩
            replace ob := q.obj ob
            replace k0 := q.keep k0
            replace k1 := q.keep k1
            replace k2 := q.keep k2
            replace k3 := q.keep k3
            replace k4 := q.keep k4
            replace hs := hs.keepB q
            replace g := g.trans q
            clear q
            go_wp2_with fail
            refine (cB _ hs).mono ?_
            rintro e wS ⟨rfl, q⟩
            replace ob := q.obj ob
            replace k0 := q.keep k0
            replace k1 := q.keep k1
            replace k2 := q.keep k2
            replace k3 := q.keep k3
            replace k4 := q.keep k4
            replace hs := hs.keepB q
            replace g := g.trans q
            clear q
            go_wp2_with fail
            refine (cC _ hs).mono ?_
            rintro e wS ⟨rfl, q⟩
            replace ob := q.obj ob
            replace k0 := q.keep k0
            replace k1 := q.keep k1
            replace k2 := q.keep k2
            replace k3 := q.keep k3
            replace k4 := q.keep k4
            replace hs := hs.keepB q
            replace g := g.trans q
            clear q
            go_wp2_with fail
            refine (cD _ hs).mono ?_
            rintro e wS ⟨rfl, q⟩
            replace ob := q.obj ob
            replace k0 := q.keep k0
            replace k1 := q.keep k1
            replace k2 := q.keep k2
            replace k3 := q.keep k3
            replace k4 := q.keep k4
            replace hs := hs.keepB q
            replace g := g.trans q
            clear q
            go_wp2_with fail
            refine (cLp _).mono ?_
            rintro e wS ⟨rfl, q⟩
            replace ob := q.obj ob
            replace k0 := q.keep k0
            replace k1 := q.keep k1
            replace k2 := q.keep k2
            replace k3 := q.keep k3
            replace k4 := q.keep k4
            replace hs := hs.keepB q
            replace g := g.trans q
            clear q
            go_wp2_with fail
            refine (cS _).mono ?_
            rintro e wS ⟨o3, cp3, rfl, hz3, q⟩
            replace ob := q.obj ob
            replace k0 := q.keep k0
            replace k1 := q.keep k1
            replace k2 := q.keep k2
            replace k3 := q.keep k3
            replace k4 := q.keep k4
            replace hs := hs.keepB q
            replace g := g.trans q
            clear q
            go_wp2_with fail
            refine (cR _).mono ?_
            rintro e wS ⟨o4, cp4, rfl, hz4, q⟩
            replace ob := q.obj ob
            replace k0 := q.keep k0
            replace k1 := q.keep k1
            replace k2 := q.keep k2
            replace k3 := q.keep k3
            replace k4 := q.keep k4
            replace hs := hs.keepB q
            replace g := g.trans q
            replace hz3 := hz3.keep q
            clear q
            obtain ⟨LM, hLM⟩ : ∃ z, LS.length = z := ⟨_, rfl⟩
            rw [hLM] at cL4 ⊢
            clear hLM
            go_wp2_with fail
            refine (cL4 _ _ _ _ _ hz3 hz4).mono ?_
            rintro e wS ⟨rfl, q⟩
            replace ob := q.obj ob
            replace k0 := q.keep k0
            replace k1 := q.keep k1
            replace k2 := q.keep k2
            replace k3 := q.keep k3
            replace k4 := q.keep k4
            replace hs := hs.keepB q
            replace g := g.trans q
            clear q
            clear cA cB cC cD cS cR cL4 cLp
            have wj : IntKind.i64.wrap ((j : Int) + 1) = (j : Int) + 1 := wrapI (by omega) (by omega)
            go_wp2
            go_roundw
            case rel => exact ⟨j + 1, by omega, by go_num, g⟩
            case measure => simp [intOf]; omega
          | ok l =>
            have cA := fun w h => (c.parts N x y z (.slice o n cn) sl X w iX h).mono fun _ _ h => partsRes_ok hp h
            have cB := fun w h => (r11parts_any N x y z (.slice o n cn) sl X iX w h).mono fun _ _ h => partsRes_ok hp h
            have hlb := (parts_bounds hp).1
            have cC := fun w h => d.count N x y z (.slice o n cn) sl X w iX h
            have cD := fun w h => r11count_any N x y z (.slice o n cn) sl X iX w h
            rw [hp] at cC cD
            simp only [cntV] at cC cD
            have cS := fun w => c.str (v := X) iX w
            have cR := fun w => (r11strokes_any X iX w).mono fun e w' h => (show ∃ o cp, e = .returned (.slice o (strokesL X).length cp) ∧ IsZ w' o (strokesL X) ∧ B w w' by obtain ⟨s, h1, h2, h3⟩ := h; obtain ⟨o, cp, rfl, hz⟩ := h2.isZ; exact ⟨o, cp, h1, hz, h3⟩)
            have hls := strokes_le4 X
            have cL4 := fun o1 o2 c1 c2 w h1 h2 => longs_z o1 o2 c1 c2 (strokesL X) (by omega) w h1 h2
            have cLp := fun o1 o2 c1 c2 w h1 h2 => longs_z o1 o2 c1 c2 l (by omega) w h1 h2
            generalize cntL l = CN at *
            generalize strokesL X = LS at *
            have HPX := Lib.hid hp
            clear hp hls hlb
            go_wp2_with fail
            refine (cA _ hs).mono ?_
            rintro e wS ⟨o1, cp1, rfl, hz1, q⟩
            replace ob := q.obj ob
            replace k0 := q.keep k0
            replace k1 := q.keep k1
            replace k2 := q.keep k2
            replace k3 := q.keep k3
            replace k4 := q.keep k4
            replace hs := hs.keepB q
            replace g := g.trans q
            clear q
            go_wp2_with fail
            refine (cB _ hs).mono ?_
            rintro e wS ⟨o2, cp2, rfl, hz2, q⟩
            replace ob := q.obj ob
            replace k0 := q.keep k0
            replace k1 := q.keep k1
            replace k2 := q.keep k2
            replace k3 := q.keep k3
            replace k4 := q.keep k4
            replace hs := hs.keepB q
            replace g := g.trans q
            replace hz1 := hz1.keep q
            clear q
            go_wp2_with fail
            refine (cC _ hs).mono ?_
            rintro e wS ⟨rfl, q⟩
            replace ob := q.obj ob
            replace k0 := q.keep k0
            replace k1 := q.keep k1
            replace k2 := q.keep k2
            replace k3 := q.keep k3
            replace k4 := q.keep k4
            replace hs := hs.keepB q
            replace g := g.trans q
            replace hz1 := hz1.keep q
            replace hz2 := hz2.keep q
            clear q
            go_wp2_with fail
            refine (cD _ hs).mono ?_
            rintro e wS ⟨rfl, q⟩
            replace ob := q.obj ob
            replace k0 := q.keep k0
            replace k1 := q.keep k1
            replace k2 := q.keep k2
            replace k3 := q.keep k3
            replace k4 := q.keep k4
            replace hs := hs.keepB q
            replace g := g.trans q
            replace hz1 := hz1.keep q
            replace hz2 := hz2.keep q
            clear q
            obtain ⟨LN, hLN⟩ : ∃ z, l.length = z := ⟨_, rfl⟩
            rw [hLN] at cLp ⊢
            clear hLN
            go_wp2_with fail
            refine (cLp _ _ _ _ _ hz1 hz2).mono ?_
            rintro e wS ⟨rfl, q⟩
            replace ob := q.obj ob
            replace k0 := q.keep k0
            replace k1 := q.keep k1
            replace k2 := q.keep k2
            replace k3 := q.keep k3
            replace k4 := q.keep k4
            replace hs := hs.keepB q
            replace g := g.trans q
            clear q
            go_wp2_with fail
            refine (cS _).mono ?_
            rintro e wS ⟨o3, cp3, rfl, hz3, q⟩
            replace ob := q.obj ob
            replace k0 := q.keep k0
            replace k1 := q.keep k1
            replace k2 := q.keep k2
            replace k3 := q.keep k3
            replace k4 := q.keep k4
            replace hs := hs.keepB q
            replace g := g.trans q
            clear q
            go_wp2_with fail
            refine (cR _).mono ?_
            rintro e wS ⟨o4, cp4, rfl, hz4, q⟩
            replace ob := q.obj ob
            replace k0 := q.keep k0
            replace k1 := q.keep k1
            replace k2 := q.keep k2
            replace k3 := q.keep k3
            replace k4 := q.keep k4
            replace hs := hs.keepB q
            replace g := g.trans q
            replace hz3 := hz3.keep q
            clear q
            obtain ⟨LM, hLM⟩ : ∃ z, LS.length = z := ⟨_, rfl⟩
            rw [hLM] at cL4 ⊢
            clear hLM
            go_wp2_with fail
            refine (cL4 _ _ _ _ _ hz3 hz4).mono ?_
            rintro e wS ⟨rfl, q⟩
            replace ob := q.obj ob
            replace k0 := q.keep k0
            replace k1 := q.keep k1
            replace k2 := q.keep k2
            replace k3 := q.keep k3
            replace k4 := q.keep k4
            replace hs := hs.keepB q
            replace g := g.trans q
            clear q
            clear cA cB cC cD cS cR cL4 cLp
            have wj : IntKind.i64.wrap ((j : Int) + 1) = (j : Int) + 1 := wrapI (by omega) (by omega)
            go_wp2
            go_roundw
            case rel => exact ⟨j + 1, by omega, by go_num, g⟩
            case measure => simp [intOf]; omega
        · have hjB : decide ((j : Int) < 4) = false := decide_eq_false (by omega)
          replace g := HB.out.1.trans g
          have wm1 : IntKind.i64.wrap ((m : Int) + 1) = (m : Int) + 1 := wrapI (by omega) (by omega)
          go_wp2
          go_roundw
          case rel => exact ⟨m + 1, by omega, by go_num, g⟩
          case measure => simp [intOf]; omega
    · have hmB : decide ((m : Int) < 3) = false := decide_eq_false (by omega)
      replace g := G0.out.trans g
      go_wp2
      go_ret
      exact ⟨rfl, g⟩
end Go.Proofs.Ytiblhebenhiijaa

namespace Go.Proofs.Ytiblhebenhiijaa
open Go.RowKit
theorem chunkcaps_ok (err k nn : Int) (he : (Lit.int .u16 err).wf = true) (hk : (Lit.int .u8 k).wf = true) (hn : (Lit.int .u32 nn).wf = true) (w : World) : Calls Try.prog 6 #[.int .u16 err, .int .u8 k, .int .u32 nn] w fun e w' => e = .returned (.bool true) ∧ B w w' :=
  caps_law chunk_code count_code err k nn he hk hn w
theorem chunksums_ok (cap E nn : Int) (hc : (Lit.int .u32 cap).wf = true) (he : (Lit.int .u8 E).wf = true) (hn : (Lit.int .u32 nn).wf = true) (w : World) : Calls Try.prog 4 #[.int .u32 cap, .int .u8 E, .int .u32 nn] w fun e w' => e = .returned (.bool true) ∧ B w w' :=
  sums16_law chunk_code count_code cap E nn hc he hn w
theorem chunkeven_ok (cap E nn u : Int) (hc : (Lit.int .u32 cap).wf = true) (he : (Lit.int .u8 E).wf = true) (hn : (Lit.int .u32 nn).wf = true) (hu : (Lit.int .i64 u).wf = true) (w : World) : Calls Try.prog 5 #[.int .u32 cap, .int .u8 E, .int .u32 nn, .int .i64 u] w fun e w' => e = .returned (.bool true) ∧ B w w' :=
  even16_law chunk_code count_code cap E nn u hc he hn hu w
theorem chunktells_ok (s : ByteArray) (rx ry rz : Int) (vo : Value) (L : List Sec) (k cap err v nn : Int) (hk : (Lit.int .u8 k).wf = true) (hc : (Lit.int .u32 cap).wf = true) (he : (Lit.int .u16 err).wf = true) (hv : (Lit.int .i64 v).wf = true) (hn : (Lit.int .u32 nn).wf = true) (w : World) (hvo : IsSecs w vo L) : Calls Try.prog 3 #[.agg #[.string s, .int .i64 rx, .int .i64 ry, .int .i64 rz, vo], .int .u8 k, .int .u32 cap, .int .u16 err, .int .i64 v, .int .u32 nn] w fun e w' => e = .returned (.bool true) ∧ B w w' :=
  tells16_law chunk_code count_code s rx ry rz vo L k cap err v nn hk hc he hv hn w hvo
end Go.Proofs.Ytiblhebenhiijaa

namespace Go.Proofs.Ytiblhebenhiijaa
open Go.RowKit Go.ChangeShapes Go.WideShapes Go.ChangeAt Go.Deep
set_option maxRecDepth 100000 in
theorem sec_open {H : Type} {enc : TypeId × Value → H} {W : World} {base : Nat} {sp : Nat → Bool} {held : Bool} {fuel : Nat} {cs : List Value} {x : DataW H × List MemPlace}
    (h : DataW.trod enc Try.prog W base sp held fuel 50 cs = some x) : ∃ s : Sec, s.I ∧ cs = s.cells := by
  obtain ⟨xs, n, _, _, hl, hlen, hf⟩ := DataW.trod_struct Try.underlying50 h
  rw [show Try.prog.cellsOf 50 = 6 by kernel_rfl] at hl
  have c1 : Try.prog.cellsOf 2 = 1 := by kernel_rfl
  have c0 : Try.prog.cellsOf 4 = 1 := by kernel_rfl
  match xs, hlen, cs, hl with
  | [x0, x1, x2, x3, x4, x5], _, [v0, v1, v2, v3, v4, v5], _ =>
    have f0 : DataW.trod enc Try.prog W base sp held n 4 (([v0, v1, v2, v3, v4, v5].drop 0).take (Try.prog.cellsOf 4)) = some x0 := hf 0 _ rfl
    have f1 : DataW.trod enc Try.prog W base sp held n 2 (([v0, v1, v2, v3, v4, v5].drop 1).take (Try.prog.cellsOf 2)) = some x1 := hf 1 _ rfl
    have f2 : DataW.trod enc Try.prog W base sp held n 2 (([v0, v1, v2, v3, v4, v5].drop 2).take (Try.prog.cellsOf 2)) = some x2 := hf 2 _ rfl
    have f3 : DataW.trod enc Try.prog W base sp held n 2 (([v0, v1, v2, v3, v4, v5].drop 3).take (Try.prog.cellsOf 2)) = some x3 := hf 3 _ rfl
    have f4 : DataW.trod enc Try.prog W base sp held n 2 (([v0, v1, v2, v3, v4, v5].drop 4).take (Try.prog.cellsOf 2)) = some x4 := hf 4 _ rfl
    have f5 : DataW.trod enc Try.prog W base sp held n 2 (([v0, v1, v2, v3, v4, v5].drop 5).take (Try.prog.cellsOf 2)) = some x5 := hf 5 _ rfl
    rw [c0] at f0
    rw [c1] at f1 f2 f3 f4 f5
    obtain ⟨r, e0, _⟩ := DataW.trod_bool Try.underlying4 f0
    obtain ⟨a1, e1, _, w1⟩ := DataW.trod_int Try.underlying2 f1
    obtain ⟨a2, e2, _, w2⟩ := DataW.trod_int Try.underlying2 f2
    obtain ⟨a3, e3, _, w3⟩ := DataW.trod_int Try.underlying2 f3
    obtain ⟨a4, e4, _, w4⟩ := DataW.trod_int Try.underlying2 f4
    obtain ⟨a5, e5, _, w5⟩ := DataW.trod_int Try.underlying2 f5
    simp at e0 e1 e2 e3 e4 e5
    subst e0 e1 e2 e3 e4 e5
    exact ⟨⟨r, a1, a2, a3, a4, a5⟩, ⟨i64_wf w1, i64_wf w2, i64_wf w3, i64_wf w4, i64_wf w5⟩, rfl⟩
set_option maxRecDepth 100000 in
theorem open_secs {H : Type} {enc : TypeId × Value → H} {W : World} {base b0 : Nat} {sp : Nat → Bool} {held : Bool} {r : Reach} {v : Value} {d : DataW H} {p : List MemPlace}
    (hv : Value.okWide Try.prog W r b0 22 v) (h : DataW.Trod enc Try.prog W base sp held 22 v d p) : ∃ l, IsSecs W v l := by
  obtain ⟨o, len, cap, rfl⟩ := okWide_slice Try.underlying22 hv
  obtain ⟨fuel, hf⟩ := h
  rcases open_slice Try.underlying22 hf with ⟨hcs, _⟩ | ⟨a, ln, cp, m, n, D, Pl, hcs, _, hl, hm, hmm, _, hx⟩
  · simp [Value.cells] at hcs
    obtain ⟨rfl, rfl, rfl⟩ := hcs
    exact ⟨[], .inl ⟨rfl, rfl⟩⟩
  · simp [Value.cells] at hcs
    obtain ⟨rfl, rfl, rfl⟩ := hcs
    rw [show Try.prog.cellsOf 50 = 6 by kernel_rfl] at hx
    have hle : len ≤ m := by rw [hmm]; split <;> omega
    obtain ⟨S, hS⟩ := choose_lt (α := Sec) (n := len) (p := fun i s => s.I ∧ ∀ j, j < 6 → W.cell? ((a.add (i * 6)).add j) = s.cells[j]?) (fun i hi => by
      obtain ⟨cs', h1, h2⟩ := hx i (by omega)
      obtain ⟨s, hI, rfl⟩ := sec_open h2
      obtain ⟨_, _, h3⟩ := World.cells?_some h1
      exact ⟨s, hI, h3⟩)
    refine ⟨(List.range len).map S, .inr ⟨a, cap, by simp, by simpa using hl, hm, fun i s hs => ?_⟩⟩
    have hi : i < len := by
      have := (List.getElem?_eq_some_iff.1 hs).1
      simpa using this
    have e : s = S i := by
      rw [List.getElem?_map, List.getElem?_range hi] at hs
      simpa using hs.symm
    subst e
    obtain ⟨hI, hc⟩ := hS i hi
    refine ⟨hI, ?_⟩
    generalize a.add (i * 6) = q at *
    have g0 := hc 0 (by omega)
    have g1 := hc 1 (by omega)
    have g2 := hc 2 (by omega)
    have g3 := hc 3 (by omega)
    have g4 := hc 4 (by omega)
    have g5 := hc 5 (by omega)
    simp [Addr.add, Sec.cells] at g0 g1 g2 g3 g4 g5
    exact ⟨g0, g1, g2, g3, g4, g5⟩
end Go.Proofs.Ytiblhebenhiijaa

namespace Go.Proofs.Ytiblhebenhiijaa
open Go.RowKit Go.ChangeShapes Go.WideShapes Go.ChangeAt Go.Deep
theorem secs_trod {H : Type} {enc : TypeId × Value → H} {W : World} {base : Nat} {sp : Nat → Bool} {held : Bool} {fuel : Nat} {v : Value} {x : DataW H × List MemPlace}
    (h : DataW.trod enc Try.prog W base sp held fuel 22 [v] = some x) : ∃ l, IsSecs W v l := by
  rcases open_slice Try.underlying22 h with ⟨hcs, _⟩ | ⟨a, ln, cp, m, n, D, Pl, hcs, _, hl, hm, hmm, _, hx⟩
  · simp at hcs
    subst hcs
    exact ⟨[], .inl ⟨rfl, rfl⟩⟩
  · simp at hcs
    subst hcs
    rw [show Try.prog.cellsOf 50 = 6 by kernel_rfl] at hx
    have hle : ln ≤ m := by rw [hmm]; split <;> omega
    obtain ⟨S, hS⟩ := choose_lt (α := Sec) (n := ln) (p := fun i s => s.I ∧ ∀ j, j < 6 → W.cell? ((a.add (i * 6)).add j) = s.cells[j]?) (fun i hi => by
      obtain ⟨cs', h1, h2⟩ := hx i (by omega)
      obtain ⟨s, hI, rfl⟩ := sec_open h2
      obtain ⟨_, _, h3⟩ := World.cells?_some h1
      exact ⟨s, hI, h3⟩)
    refine ⟨(List.range ln).map S, .inr ⟨a, cp, by simp, by simpa using hl, hm, fun i s hs => ?_⟩⟩
    have hi : i < ln := by
      have := (List.getElem?_eq_some_iff.1 hs).1
      simpa using this
    have e : s = S i := by
      rw [List.getElem?_map, List.getElem?_range hi] at hs
      simpa using hs.symm
    subst e
    obtain ⟨hI, hc⟩ := hS i hi
    refine ⟨hI, ?_⟩
    generalize a.add (i * 6) = q at *
    have g0 := hc 0 (by omega)
    have g1 := hc 1 (by omega)
    have g2 := hc 2 (by omega)
    have g3 := hc 3 (by omega)
    have g4 := hc 4 (by omega)
    have g5 := hc 5 (by omega)
    simp [Addr.add, Sec.cells] at g0 g1 g2 g3 g4 g5
    exact ⟨g0, g1, g2, g3, g4, g5⟩
set_option maxRecDepth 100000 in
theorem open_tip {H : Type} {enc : TypeId × Value → H} {W : World} {base b0 : Nat} {sp : Nat → Bool} {held : Bool} {r : Reach} {v : Value} {d : DataW H} {p : List MemPlace}
    (hv : Value.okWide Try.prog W r b0 24 v) (h : DataW.Trod enc Try.prog W base sp held 24 v d p) :
    ∃ s a1 a2 a3 vo l, v = .agg #[.string s, .int .i64 a1, .int .i64 a2, .int .i64 a3, vo] ∧ IsSecs W vo l := by
  obtain ⟨cs, rfl, hsz⟩ := okWide_struct Try.underlying24 hv
  obtain ⟨fuel, hf⟩ := h
  obtain ⟨xs, n, _, _, hl, hlen, hf⟩ := DataW.trod_struct Try.underlying24 hf
  have e5 : Try.prog.cellsOf 24 = 5 := by kernel_rfl
  rw [e5] at hl hsz
  have c2 : Try.prog.cellsOf 2 = 1 := by kernel_rfl
  have c9 : Try.prog.cellsOf 9 = 1 := by kernel_rfl
  have cS : Try.prog.cellsOf 22 = 1 := by kernel_rfl
  obtain ⟨cl⟩ := cs
  match xs, hlen, cl, hsz with
  | [x0, x1, x2, x3, x4], _, [v0, v1, v2, v3, v4], _ =>
    have f0 : DataW.trod enc Try.prog W base sp held n 9 (([v0, v1, v2, v3, v4].drop 0).take (Try.prog.cellsOf 9)) = some x0 := hf 0 _ rfl
    have f1 : DataW.trod enc Try.prog W base sp held n 2 (([v0, v1, v2, v3, v4].drop 1).take (Try.prog.cellsOf 2)) = some x1 := hf 1 _ rfl
    have f2 : DataW.trod enc Try.prog W base sp held n 2 (([v0, v1, v2, v3, v4].drop 2).take (Try.prog.cellsOf 2)) = some x2 := hf 2 _ rfl
    have f3 : DataW.trod enc Try.prog W base sp held n 2 (([v0, v1, v2, v3, v4].drop 3).take (Try.prog.cellsOf 2)) = some x3 := hf 3 _ rfl
    have f4 : DataW.trod enc Try.prog W base sp held n 22 (([v0, v1, v2, v3, v4].drop 4).take (Try.prog.cellsOf 22)) = some x4 := hf 4 _ rfl
    rw [c9] at f0
    rw [c2] at f1 f2 f3
    rw [cS] at f4
    obtain ⟨s, e0, _⟩ := DataW.trod_string Try.underlying9 f0
    obtain ⟨a1, e1, _, _⟩ := DataW.trod_int Try.underlying2 f1
    obtain ⟨a2, e2, _, _⟩ := DataW.trod_int Try.underlying2 f2
    obtain ⟨a3, e3, _, _⟩ := DataW.trod_int Try.underlying2 f3
    obtain ⟨l, e4⟩ := secs_trod f4
    simp at e0 e1 e2 e3
    subst e0 e1 e2 e3
    exact ⟨s, a1, a2, a3, _, l, rfl, e4⟩
end Go.Proofs.Ytiblhebenhiijaa
