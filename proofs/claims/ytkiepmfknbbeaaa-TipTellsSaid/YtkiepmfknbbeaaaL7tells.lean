/-
  Layer 7: the walk of TipTells.
-/
import Derived.Test.YtkiepmfknbbeaaaL7low
import Derived.Test.YtkiepmfknbbeaaaSeat2
import Derived.Lib.MinMax
import Derived.WalkSpells
namespace Go.Proofs.Ytkiepmfknbbeaaa
open Go.RowKit

set_option maxRecDepth 100000 in
set_option maxHeartbeats 16000000 in
theorem tells7_law {T : World → Value → List (Int × Int) → Prop} (c : TabC T) (s : ByteArray) (cap filt err : Int) (vo : Value) (ls : List Sec) (k j : Int) (v : Value) (n : Nat) (rd : Bool) (vv z part depth nn : Int)
    (hk : (Lit.int .u8 k).wf = true) (hj : (Lit.int .u8 j).wf = true) (hvv : (Lit.int .i64 vv).wf = true) (hz : (Lit.int .i64 z).wf = true) (hpa : (Lit.int .i64 part).wf = true) (hde : (Lit.int .i64 depth).wf = true) (hnn : (Lit.int .u32 nn).wf = true) (w : World) (hvo : IsSecs w vo ls) (hv : IsU16 w v n) :
    Calls Try.prog 3 #[.agg #[.string s, .int .i64 cap, .int .i64 filt, .int .i64 err, vo], .int .u8 k, .int .u8 j, v, .bool rd, .int .i64 vv, .int .i64 z, .int .i64 part, .int .i64 depth, .int .u32 nn] w fun e w' => e = .returned (.bool true) ∧ B w w' := by
  obtain ⟨k1, k2⟩ := u8_wf hk
  obtain ⟨j1, j2⟩ := u8_wf hj
  obtain ⟨vv1, vv2⟩ := i64_wf hvv
  obtain ⟨z1, z2⟩ := i64_wf hz
  obtain ⟨pa1, pa2⟩ := i64_wf hpa
  obtain ⟨de1, de2⟩ := i64_wf hde
  obtain ⟨nn1, nn2⟩ := u32_wf hnn
  clear hk hj hvv hz hpa hde hnn
  have c0 := fun w => known7_any c w
  obtain ⟨ov, nv, cv, rfl⟩ := hvo.form
  obtain ⟨ao, cap0, rfl, hn⟩ := hv.form
  have cL := fun b w h hb => light_any (.slice ov nv cv) ls w h b hb
  by_cases h1 : ¬ ls.length ≤ 6
  · replace cL := fun w h => cL false w h (decide_eq_false (by omega))
    have HS := Lib.hid hvo
    clear hvo hv
    go_enter Try.func3, Try.ntmps3
    go_wp2_with fail
    have r0 : (w.alloc (.cells #[.string s, .int .i64 cap, .int .i64 filt, .int .i64 err, .slice ov nv cv] 24)).cell? ⟨w.heap.size, 0, none⟩ = some (.string s) := by simp [go_sem]
    have r1 : (w.alloc (.cells #[.string s, .int .i64 cap, .int .i64 filt, .int .i64 err, .slice ov nv cv] 24)).cell? ⟨w.heap.size, 1, none⟩ = some (.int .i64 cap) := by simp [go_sem]
    have r2 : (w.alloc (.cells #[.string s, .int .i64 cap, .int .i64 filt, .int .i64 err, .slice ov nv cv] 24)).cell? ⟨w.heap.size, 2, none⟩ = some (.int .i64 filt) := by simp [go_sem]
    have r3 : (w.alloc (.cells #[.string s, .int .i64 cap, .int .i64 filt, .int .i64 err, .slice ov nv cv] 24)).cell? ⟨w.heap.size, 3, none⟩ = some (.int .i64 err) := by simp [go_sem]
    have r4 : (w.alloc (.cells #[.string s, .int .i64 cap, .int .i64 filt, .int .i64 err, .slice ov nv cv] 24)).cell? ⟨w.heap.size, 4, none⟩ = some (.slice ov nv cv) := by simp [go_sem]
    have g : B w (w.alloc (.cells #[.string s, .int .i64 cap, .int .i64 filt, .int .i64 err, .slice ov nv cv] 24)) := (B.refl w).alloc _ _
    have hs := HS.out.keepB g
    generalize w.alloc (.cells #[.string s, .int .i64 cap, .int .i64 filt, .int .i64 err, .slice ov nv cv] 24) = W0 at *
    refine (c0 _).mono ?_
    rintro e w1 ⟨rfl, q⟩
    replace g := g.trans q
    replace hs := hs.keepB q
    replace r0 := q.keep r0
    replace r1 := q.keep r1
    replace r2 := q.keep r2
    replace r3 := q.keep r3
    replace r4 := q.keep r4
    clear q
    go_wp2_with fail
    refine (cL _ hs).mono ?_
    rintro e w2 ⟨rfl, rfl⟩
    go_wp2
    go_ret
    exact ⟨rfl, g⟩
  replace cL := fun w h => cL true w h (decide_eq_true (by omega))
  by_cases h2 : 30 < s.size
  · have h2B : decide ((30 : Int) < (s.size : Int)) = true := decide_eq_true (by omega)
    have HS := Lib.hid hvo
    clear hvo hv
    go_enter Try.func3, Try.ntmps3
    go_wp2_with fail
    have r0 : (w.alloc (.cells #[.string s, .int .i64 cap, .int .i64 filt, .int .i64 err, .slice ov nv cv] 24)).cell? ⟨w.heap.size, 0, none⟩ = some (.string s) := by simp [go_sem]
    have r1 : (w.alloc (.cells #[.string s, .int .i64 cap, .int .i64 filt, .int .i64 err, .slice ov nv cv] 24)).cell? ⟨w.heap.size, 1, none⟩ = some (.int .i64 cap) := by simp [go_sem]
    have r2 : (w.alloc (.cells #[.string s, .int .i64 cap, .int .i64 filt, .int .i64 err, .slice ov nv cv] 24)).cell? ⟨w.heap.size, 2, none⟩ = some (.int .i64 filt) := by simp [go_sem]
    have r3 : (w.alloc (.cells #[.string s, .int .i64 cap, .int .i64 filt, .int .i64 err, .slice ov nv cv] 24)).cell? ⟨w.heap.size, 3, none⟩ = some (.int .i64 err) := by simp [go_sem]
    have r4 : (w.alloc (.cells #[.string s, .int .i64 cap, .int .i64 filt, .int .i64 err, .slice ov nv cv] 24)).cell? ⟨w.heap.size, 4, none⟩ = some (.slice ov nv cv) := by simp [go_sem]
    have g : B w (w.alloc (.cells #[.string s, .int .i64 cap, .int .i64 filt, .int .i64 err, .slice ov nv cv] 24)) := (B.refl w).alloc _ _
    have hs := HS.out.keepB g
    generalize w.alloc (.cells #[.string s, .int .i64 cap, .int .i64 filt, .int .i64 err, .slice ov nv cv] 24) = W0 at *
    refine (c0 _).mono ?_
    rintro e w1 ⟨rfl, q⟩
    replace g := g.trans q
    replace hs := hs.keepB q
    replace r0 := q.keep r0
    replace r1 := q.keep r1
    replace r2 := q.keep r2
    replace r3 := q.keep r3
    replace r4 := q.keep r4
    clear q
    go_wp2_with fail
    refine (cL _ hs).mono ?_
    rintro e w2 ⟨rfl, rfl⟩
    go_wp2
    go_ret
    exact ⟨rfl, g⟩
  have h2B : decide ((30 : Int) < (s.size : Int)) = false := decide_eq_false (by omega)
  by_cases h3 : 40 < n
  · have h3B : decide ((40 : Int) < (n : Int)) = true := decide_eq_true (by omega)
    have HS := Lib.hid hvo
    clear hvo hv
    go_enter Try.func3, Try.ntmps3
    go_wp2_with fail
    have r0 : (w.alloc (.cells #[.string s, .int .i64 cap, .int .i64 filt, .int .i64 err, .slice ov nv cv] 24)).cell? ⟨w.heap.size, 0, none⟩ = some (.string s) := by simp [go_sem]
    have r1 : (w.alloc (.cells #[.string s, .int .i64 cap, .int .i64 filt, .int .i64 err, .slice ov nv cv] 24)).cell? ⟨w.heap.size, 1, none⟩ = some (.int .i64 cap) := by simp [go_sem]
    have r2 : (w.alloc (.cells #[.string s, .int .i64 cap, .int .i64 filt, .int .i64 err, .slice ov nv cv] 24)).cell? ⟨w.heap.size, 2, none⟩ = some (.int .i64 filt) := by simp [go_sem]
    have r3 : (w.alloc (.cells #[.string s, .int .i64 cap, .int .i64 filt, .int .i64 err, .slice ov nv cv] 24)).cell? ⟨w.heap.size, 3, none⟩ = some (.int .i64 err) := by simp [go_sem]
    have r4 : (w.alloc (.cells #[.string s, .int .i64 cap, .int .i64 filt, .int .i64 err, .slice ov nv cv] 24)).cell? ⟨w.heap.size, 4, none⟩ = some (.slice ov nv cv) := by simp [go_sem]
    have g : B w (w.alloc (.cells #[.string s, .int .i64 cap, .int .i64 filt, .int .i64 err, .slice ov nv cv] 24)) := (B.refl w).alloc _ _
    have hs := HS.out.keepB g
    generalize w.alloc (.cells #[.string s, .int .i64 cap, .int .i64 filt, .int .i64 err, .slice ov nv cv] 24) = W0 at *
    refine (c0 _).mono ?_
    rintro e w1 ⟨rfl, q⟩
    replace g := g.trans q
    replace hs := hs.keepB q
    replace r0 := q.keep r0
    replace r1 := q.keep r1
    replace r2 := q.keep r2
    replace r3 := q.keep r3
    replace r4 := q.keep r4
    clear q
    go_wp2_with fail
    refine (cL _ hs).mono ?_
    rintro e w2 ⟨rfl, rfl⟩
    go_wp2
    go_ret
    exact ⟨rfl, g⟩
  have h3B : decide ((40 : Int) < (n : Int)) = false := decide_eq_false (by omega)
  clear h1 h2 h3
  obtain ⟨x40, ex40⟩ : ∃ z, nn % 40000 = z := ⟨_, rfl⟩
  have tx40 : nn.tmod 40000 = x40 := by rw [Int.tmod_eq_emod_of_nonneg (by omega)]; exact ex40
  have bx40 : 0 ≤ x40 ∧ x40 < 40000 := by omega
  have xx40 : IntKind.i64.wrap x40 = x40 := wrapI (by omega) (by omega)
  have yx40 : IntKind.u32.wrap x40 = x40 := wrapU32 (by omega) (by omega)
  obtain ⟨x4, ex4⟩ : ∃ z, nn % 400000 = z := ⟨_, rfl⟩
  have tx4 : nn.tmod 400000 = x4 := by rw [Int.tmod_eq_emod_of_nonneg (by omega)]; exact ex4
  have bx4 : 0 ≤ x4 ∧ x4 < 400000 := by omega
  have xx4 : IntKind.i64.wrap x4 = x4 := wrapI (by omega) (by omega)
  have yx4 : IntKind.u32.wrap x4 = x4 := wrapU32 (by omega) (by omega)
  obtain ⟨x9, ex9⟩ : ∃ z, nn % 9000 = z := ⟨_, rfl⟩
  have tx9 : nn.tmod 9000 = x9 := by rw [Int.tmod_eq_emod_of_nonneg (by omega)]; exact ex9
  have bx9 : 0 ≤ x9 ∧ x9 < 9000 := by omega
  have xx9 : IntKind.i64.wrap x9 = x9 := wrapI (by omega) (by omega)
  have yx9 : IntKind.u32.wrap x9 = x9 := wrapU32 (by omega) (by omega)
  obtain ⟨x2, ex2⟩ : ∃ z, nn % 2000000 = z := ⟨_, rfl⟩
  have tx2 : nn.tmod 2000000 = x2 := by rw [Int.tmod_eq_emod_of_nonneg (by omega)]; exact ex2
  have bx2 : 0 ≤ x2 ∧ x2 < 2000000 := by omega
  have xx2 : IntKind.i64.wrap x2 = x2 := wrapI (by omega) (by omega)
  have yx2 : IntKind.u32.wrap x2 = x2 := wrapU32 (by omega) (by omega)
  obtain ⟨pp, epp⟩ : ∃ z, nn % 1001 = z := ⟨_, rfl⟩
  have tpp : nn.tmod 1001 = pp := by rw [Int.tmod_eq_emod_of_nonneg (by omega)]; exact epp
  have bpp : 0 ≤ pp ∧ pp < 1001 := by omega
  have xpp : IntKind.i64.wrap pp = pp := wrapI (by omega) (by omega)
  have ypp : IntKind.u32.wrap pp = pp := wrapU32 (by omega) (by omega)
  have ivv : I64 vv := by unfold I64; omega
  have iz : I64 z := by unfold I64; omega
  have ipt : I64 part := by unfold I64; omega
  have ipp : I64 pp := by unfold I64; omega
  obtain ⟨ds, eds⟩ : ∃ xs : Nat → Int, xs = fun m => [depth, x40, 0, -1].getD m 0 := ⟨_, rfl⟩
  have nums4 : ∀ (w : World) (t : TypeId) m, m < 4 → (w.alloc (.cells #[.int .i64 depth, .int .i64 x40, .int .i64 0, .int .i64 (-1)] t)).cell? ⟨w.heap.size, m, none⟩ = some (.int .i64 (ds m)) := fun w t m hm => by
    subst eds
    rw [World.cell?_alloc_new]
    match m, hm with
    | 0, _ => rfl
    | 1, _ => rfl
    | 2, _ => rfl
    | 3, _ => rfl
  obtain ⟨xs, exs⟩ : ∃ xs : Nat → Int, xs = fun m => [vv, x4, x2, vv, x4].getD m 0 := ⟨_, rfl⟩
  obtain ⟨ys, eys⟩ : ∃ xs : Nat → Int, xs = fun m => [z, x9, 300, 500, z].getD m 0 := ⟨_, rfl⟩
  have ips : ∀ m, m < 5 → I64 (xs m) ∧ I64 (ys m) := fun m hm => by
    subst exs eys
    match m, hm with
    | 0, _ => exact ⟨ivv, iz⟩
    | 1, _ => exact ⟨by show I64 x4; unfold I64; omega, by show I64 x9; unfold I64; omega⟩
    | 2, _ => exact ⟨by show I64 x2; unfold I64; omega, by show I64 300; decide⟩
    | 3, _ => exact ⟨ivv, by show I64 500; decide⟩
    | 4, _ => exact ⟨by show I64 x4; unfold I64; omega, iz⟩
  have nums10 : ∀ (w : World) (t : TypeId) m, m < 5 → (w.alloc (.cells #[.int .i64 vv, .int .i64 z, .int .i64 x4, .int .i64 x9, .int .i64 x2, .int .i64 300, .int .i64 vv, .int .i64 500, .int .i64 x4, .int .i64 z] t)).cell? ⟨w.heap.size, m * 2, none⟩ = some (.int .i64 (xs m)) ∧ (w.alloc (.cells #[.int .i64 vv, .int .i64 z, .int .i64 x4, .int .i64 x9, .int .i64 x2, .int .i64 300, .int .i64 vv, .int .i64 500, .int .i64 x4, .int .i64 z] t)).cell? ⟨w.heap.size, m * 2 + 1, none⟩ = some (.int .i64 (ys m)) := fun w t m hm => by
    subst exs eys
    rw [World.cell?_alloc_new, World.cell?_alloc_new]
    match m, hm with
    | 0, _ => exact ⟨rfl, rfl⟩
    | 1, _ => exact ⟨rfl, rfl⟩
    | 2, _ => exact ⟨rfl, rfl⟩
    | 3, _ => exact ⟨rfl, rfl⟩
    | 4, _ => exact ⟨rfl, rfl⟩
  clear exs eys eds
  have cD := fun w => deck_tip k j k j ⟨k1, k2⟩ ⟨j1, j2⟩ ⟨k1, k2⟩ ⟨j1, j2⟩ w
  have hfld := fun x y z a b c d e f w => deck_tips x y z a b c d e f w
  have cR := fun w h => tipright_any s cap filt err (.slice ov nv cv) ls w h
  have cE := fun w h => r8tipright_any s cap filt err (.slice ov nv cv) ls w h
  have cX := fun oo no po w h => tipright_any nameT1 (cap7 k) (filt7 j) (err7 j) (.slice oo no po) (outerOf (k % 3).toNat) w h
  rw [tip7_right] at cX
  generalize tipB s cap filt err ls = bb at *
  generalize cap7 k = ca at *
  generalize filt7 j = fa at *
  generalize err7 j = ea at *
  generalize nameT1 = nm at *
  generalize outerOf (k % 3).toNat = lo at *
  have cO := fun w => outer_any j j1 j2 w
  have hro := outer_right (j % 3).toNat
  have cY := fun v w h => c.yes v (outerOf (j % 3).toNat) w h hro
  have cV := fun v w h => own7_any v (outerOf (j % 3).toNat) w h hro
  have hbo := tbnd_of hro
  generalize slAll (outerOf (j % 3).toNat) = O at *
  generalize outerOf (j % 3).toNat = lj at *
  clear hro
  have cW := fun w h => wild_any (.slice ao n cap0) n rd w h
  have cK := fun w => shape_any k k1 k2 w
  have rK := shape_right (k % 6).toNat
  generalize shapeOf (k % 6).toNat = lk at *
  have cN1 := fun w => push_nil depth w
  have cN2 := fun (po : Addr) w => surf_nil (.pointer (some po)) vv z w
  have cN3 := fun w => truth_nil (.pointer none) vv z part w
  have HV := Lib.hid hv
  have HS := Lib.hid hvo
  clear hv hvo
  go_enter Try.func3, Try.ntmps3
  go_wp2_with fail
  have r0 : (w.alloc (.cells #[.string s, .int .i64 cap, .int .i64 filt, .int .i64 err, .slice ov nv cv] 24)).cell? ⟨w.heap.size, 0, none⟩ = some (.string s) := by simp [go_sem]
  have r1 : (w.alloc (.cells #[.string s, .int .i64 cap, .int .i64 filt, .int .i64 err, .slice ov nv cv] 24)).cell? ⟨w.heap.size, 1, none⟩ = some (.int .i64 cap) := by simp [go_sem]
  have r2 : (w.alloc (.cells #[.string s, .int .i64 cap, .int .i64 filt, .int .i64 err, .slice ov nv cv] 24)).cell? ⟨w.heap.size, 2, none⟩ = some (.int .i64 filt) := by simp [go_sem]
  have r3 : (w.alloc (.cells #[.string s, .int .i64 cap, .int .i64 filt, .int .i64 err, .slice ov nv cv] 24)).cell? ⟨w.heap.size, 3, none⟩ = some (.int .i64 err) := by simp [go_sem]
  have r4 : (w.alloc (.cells #[.string s, .int .i64 cap, .int .i64 filt, .int .i64 err, .slice ov nv cv] 24)).cell? ⟨w.heap.size, 4, none⟩ = some (.slice ov nv cv) := by simp [go_sem]
  have g : B w (w.alloc (.cells #[.string s, .int .i64 cap, .int .i64 filt, .int .i64 err, .slice ov nv cv] 24)) := (B.refl w).alloc _ _
  have hs := HS.out.keepB g
  generalize w.alloc (.cells #[.string s, .int .i64 cap, .int .i64 filt, .int .i64 err, .slice ov nv cv] 24) = W0 at *
  refine (c0 _).mono ?_
  rintro e w1 ⟨rfl, q⟩
  replace g := g.trans q
  replace hs := hs.keepB q
  replace r0 := q.keep r0
  replace r1 := q.keep r1
  replace r2 := q.keep r2
  replace r3 := q.keep r3
  replace r4 := q.keep r4
  clear q
  go_wp2_with fail
  refine (cL _ hs).mono ?_
  rintro e w2 ⟨rfl, rfl⟩
  go_wp2_with fail
  refine (cD _).mono ?_
  rintro e w3 ⟨wo, wn, wc, gb, gof, nd, cd, oo, no, po_, rfl, hnd, f0, f1, f2, f3, f4, hx, q⟩
  replace g := g.trans q
  replace hs := hs.keepB q
  replace r0 := q.keep r0
  replace r1 := q.keep r1
  replace r2 := q.keep r2
  replace r3 := q.keep r3
  replace r4 := q.keep r4
  clear q cD
  go_wp2_with fail
  have ob : (w3.alloc (.cells #[.string nm, .int .i64 ca, .int .i64 fa, .int .i64 ea, .slice oo no po_] 24)).heap[w3.heap.size]? = some (.cells #[.string nm, .int .i64 ca, .int .i64 fa, .int .i64 ea, .slice oo no po_] 24 (0, 0)) := obj_new _ _
  have q : B w3 (w3.alloc (.cells #[.string nm, .int .i64 ca, .int .i64 fa, .int .i64 ea, .slice oo no po_] 24)) := (B.refl _).alloc _ _
  replace g := g.trans q
  replace hs := hs.keepB q
  replace hx := hx.keepB q
  replace r0 := q.keep r0
  replace r1 := q.keep r1
  replace r2 := q.keep r2
  replace r3 := q.keep r3
  replace r4 := q.keep r4
  clear f0 f1 f2 f3 f4 q hnd
  generalize w3.alloc (.cells #[.string nm, .int .i64 ca, .int .i64 fa, .int .i64 ea, .slice oo no po_] 24) = W2 at *
  generalize w3.heap.size = xb at *
  have k0 := obj_cell ob 0
  have k1 := obj_cell ob 1
  have k2 := obj_cell ob 2
  have k3 := obj_cell ob 3
  have k4 := obj_cell ob 4
  clear ob hfld
  replace g := g.drew
  refine wp_region_noPanic ?_
  refine wp_region_seq (S := fun w' => w'.cell? ⟨w.heap.size, 0, none⟩ = some (.string s) ∧ w'.cell? ⟨w.heap.size, 1, none⟩ = some (.int .i64 cap) ∧ w'.cell? ⟨w.heap.size, 2, none⟩ = some (.int .i64 filt) ∧ w'.cell? ⟨w.heap.size, 3, none⟩ = some (.int .i64 err) ∧ w'.cell? ⟨w.heap.size, 4, none⟩ = some (.slice ov nv cv) ∧ w'.cell? ⟨xb, 0, none⟩ = some (.string nm) ∧ w'.cell? ⟨xb, 1, none⟩ = some (.int .i64 ca) ∧ w'.cell? ⟨xb, 2, none⟩ = some (.int .i64 fa) ∧ w'.cell? ⟨xb, 3, none⟩ = some (.int .i64 ea) ∧ w'.cell? ⟨xb, 4, none⟩ = some (.slice oo no po_) ∧ IsSecs w' (.slice ov nv cv) ls ∧ IsSecs w' (.slice oo no po_) lo) [(0, 0), (2, 0), (1, 2), (3, 2), (4, 0), (5, 0), (6, 0), (7, 2), (8, 0), (9, 0)] [0, 1, 0, 6, 10, 24, 32, 96, 160, 288] [0, 1, 0, 4, 10, 16, 32, 96, 160, 288] (by kernel_rfl) (by kernel_rfl) (fun _ _ _ _ _ h => h) ?_ (fun hH => ?_)
  · exact ⟨r0, r1, r2, r3, r4, k0, k1, k2, k3, k4, hs.keepB (B.refl _).drew, hx.keepB (B.refl _).drew⟩
  refine wpSeq_take (d := 59) (v := ?_) rfl rfl (by kernel_rfl) (fun w hS => ?_) ?_
  rotate_left
  · go_simp <;> with_reducible rfl
  dsimp only [List.set_cons_zero, List.set_cons_succ]
  refine wpSeq_take (d := 61) (v := ?_) rfl rfl (by kernel_rfl) (fun w hS => ?_) ?_
  rotate_left
  · go_simp <;> with_reducible rfl
  dsimp only [List.set_cons_zero, List.set_cons_succ]
  refine wpSeq_call rfl (by kernel_rfl) (fun K hK => ?_)
  go_simp
  (with_reducible refine (cR _ hH.2.2.2.2.2.2.2.2.2.2.1).mono ?_)
  rintro e w' ⟨rfl, hq⟩
  replace g := g.trans hq
  refine hK.out _ _ ?_ (fun hH => ?_)
  · exact ⟨hq.keep hH.1, hq.keep hH.2.1, hq.keep hH.2.2.1, hq.keep hH.2.2.2.1, hq.keep hH.2.2.2.2.1, hq.keep hH.2.2.2.2.2.1, hq.keep hH.2.2.2.2.2.2.1, hq.keep hH.2.2.2.2.2.2.2.1, hq.keep hH.2.2.2.2.2.2.2.2.1, hq.keep hH.2.2.2.2.2.2.2.2.2.1, hH.2.2.2.2.2.2.2.2.2.2.1.keepB hq, hH.2.2.2.2.2.2.2.2.2.2.2.keepB hq⟩
  clear hK
  refine wpSeq_call rfl (by kernel_rfl) (fun K hK => ?_)
  go_simp
  (with_reducible refine (cE _ hH.2.2.2.2.2.2.2.2.2.2.1).mono ?_)
  rintro e w' ⟨rfl, hq⟩
  replace g := g.trans hq
  refine hK.out _ _ ?_ (fun hH => ?_)
  · exact ⟨hq.keep hH.1, hq.keep hH.2.1, hq.keep hH.2.2.1, hq.keep hH.2.2.2.1, hq.keep hH.2.2.2.2.1, hq.keep hH.2.2.2.2.2.1, hq.keep hH.2.2.2.2.2.2.1, hq.keep hH.2.2.2.2.2.2.2.1, hq.keep hH.2.2.2.2.2.2.2.2.1, hq.keep hH.2.2.2.2.2.2.2.2.2.1, hH.2.2.2.2.2.2.2.2.2.2.1.keepB hq, hH.2.2.2.2.2.2.2.2.2.2.2.keepB hq⟩
  clear hK
  refine wpSeq_take (d := 63) (v := ?_) rfl rfl (by kernel_rfl) (fun w hS => ?_) ?_
  rotate_left
  · go_simp <;> with_reducible rfl
  dsimp only [List.set_cons_zero, List.set_cons_succ]
  refine wpSeq_take (d := 64) (v := ?_) rfl rfl (by kernel_rfl) (fun w hS => ?_) ?_
  rotate_left
  · go_simp <;> with_reducible rfl
  dsimp only [List.set_cons_zero, List.set_cons_succ]
  refine wpSeq_take (d := 65) (v := ?_) rfl rfl (by kernel_rfl) (fun w hS => ?_) ?_
  rotate_left
  · go_simp <;> with_reducible rfl
  dsimp only [List.set_cons_zero, List.set_cons_succ]
  refine wpSeq_call rfl (by kernel_rfl) (fun K hK => ?_)
  go_simp
  (with_reducible refine (cX _ _ _ _ hH.2.2.2.2.2.2.2.2.2.2.2).mono ?_)
  rintro e w' ⟨rfl, hq⟩
  replace g := g.trans hq
  refine hK.out _ _ ?_ (fun hH => ?_)
  · exact ⟨hq.keep hH.1, hq.keep hH.2.1, hq.keep hH.2.2.1, hq.keep hH.2.2.2.1, hq.keep hH.2.2.2.2.1, hq.keep hH.2.2.2.2.2.1, hq.keep hH.2.2.2.2.2.2.1, hq.keep hH.2.2.2.2.2.2.2.1, hq.keep hH.2.2.2.2.2.2.2.2.1, hq.keep hH.2.2.2.2.2.2.2.2.2.1, hH.2.2.2.2.2.2.2.2.2.2.1.keepB hq, hH.2.2.2.2.2.2.2.2.2.2.2.keepB hq⟩
  clear hK
  refine wpSeq_take (d := 67) (v := ?_) rfl rfl (by kernel_rfl) (fun w hS => ?_) ?_
  rotate_left
  · go_simp <;> with_reducible rfl
  dsimp only [List.set_cons_zero, List.set_cons_succ]
  refine wpSeq_take (d := 68) (v := ?_) rfl rfl (by kernel_rfl) (fun w hS => ?_) ?_
  rotate_left
  · go_simp <;> with_reducible rfl
  dsimp only [List.set_cons_zero, List.set_cons_succ]
  refine wpSeq_done ?_
  refine NoPanic.normal ?_
  clear hH hs hx r0 r1 r2 r3 r4 k0 k1 k2 k3 k4 cR cE cX cL HS
  go_wp2_with fail
  refine (cO _).mono ?_
  rintro e w4 ⟨va, rfl, hva, q⟩
  replace g := g.trans q.b
  obtain ⟨oa, na, pa, rfl⟩ := hva.form
  clear q
  go_wp2_with fail
  refine (cY _ _ hva).mono ?_
  rintro e w5 ⟨po, rfl, ho, q⟩
  replace g := g.trans q
  clear q hva
  go_wp2_with fail
  refine (cO _).mono ?_
  rintro e w6 ⟨va, rfl, hva, q6⟩
  have q := q6.b
  replace g := g.trans q
  replace ho := c.keep ho q
  obtain ⟨oa, na, pa, rfl⟩ := hva.form
  clear q q6
  go_wp2_with fail
  refine (cV _ _ hva).mono ?_
  rintro e w7 ⟨pw_, rfl, hw, q⟩
  replace g := g.trans q
  replace ho := c.keep ho q
  obtain ⟨pw, rfl⟩ : ∃ a, pw_ = .pointer (some a) := by obtain ⟨b, _, _, _, _, h, _⟩ := hw; exact ⟨_, h⟩
  clear q hva cO cY cV
  go_wp2
  have n4 := nums4 w7 2
  have qn : B w7 (w7.alloc (.cells #[.int .i64 depth, .int .i64 x40, .int .i64 0, .int .i64 (-1)] 2)) := (B.refl _).alloc _ _
  replace ho := c.keep ho qn
  replace hw := hw.keepB qn
  replace g := g.trans qn
  clear qn
  generalize w7.alloc (.cells #[.int .i64 depth, .int .i64 x40, .int .i64 0, .int .i64 (-1)] 2) = W4 at *
  generalize w7.heap.size = b4 at *
  have HO := Lib.hid ho
  have HW := Lib.hid hw
  have HG := Lib.hid g
  clear ho hw g
  go_loopw [90] (fun i wr => ∃ a : Nat, a ≤ 4 ∧ i = .int .i64 a ∧ T wr (.pointer (some po)) O ∧ RTab wr (.pointer (some pw)) O ∧ B W4 wr) (fun i _ => 4 - (intOf i).toNat)
  case atStart => exact ⟨0, Nat.zero_le _, rfl, HO.out, HW.out, B.refl _⟩
  case round =>
    clear HO HW
    obtain ⟨a, ha, rfl, ho, hw, g⟩ := hrel
    by_cases ha4 : a < 4
    · have haB : decide ((a : Int) < 4) = true := decide_eq_true (by omega)
      have haI : (a : Int) < 4 := by omega
      have hcx := g.keep (n4 a ha4)
      generalize ds a = x at *
      have a1 := fun w h => push_any c (.pointer (some po)) O x w hbo h
      have a2 := fun w h => r7push_any (.pointer (some pw)) O x w hbo h
      generalize lvVol O x true = P at *
      go_wp2_with fail
      refine (a1 _ ho).mono ?_
      rintro e wS ⟨rfl, q⟩
      replace g := g.trans q
      replace ho := c.keep ho q
      replace hw := hw.keepB q
      clear q
      go_wp2_with fail
      refine (a2 _ hw).mono ?_
      rintro e wS ⟨rfl, q⟩
      replace g := g.trans q
      replace ho := c.keep ho q
      replace hw := hw.keepB q
      clear q
      go_wp2
      go_roundw
      case rel => exact ⟨a + 1, by omega, by go_num, ho, hw, g⟩
      case measure => simp [intOf]; omega
    · have haB : decide ((a : Int) < 4) = false := decide_eq_false (by omega)
      replace g := HG.out.trans g
      clear n4 nums4 HG
      go_wp2_with fail
      refine (cK _).mono ?_
      rintro e w2 ⟨v1, rfl, hv1, q2⟩
      obtain ⟨oo1, nn1, pp1, rfl⟩ := hv1.form
      replace g := g.trans q2.b
      replace ho := c.keep ho q2.b
      replace hw := hw.keepB q2.b
      go_wp2_with fail
      refine (cW _ (HV.out.keepB g)).mono ?_
      rintro e w8 ⟨v2, l, rfl, hl, hr, g2⟩
      obtain ⟨oo2, nn2, pp2, rfl⟩ := hl.form
      replace g := g.trans g2
      replace ho := c.keep ho g2
      replace hw := hw.keepB g2
      have T0 := fun t => twoS_new w8 t (.slice oo1 nn1 pp1) (.slice oo2 nn2 pp2) lk l (hv1.keepB g2) hl rK hr
      clear g2 cW HV cK q2 hv1 hl hr rK
      go_wp2
      have T2 := T0 22
      clear T0
      replace g := g.alloc #[.slice oo1 nn1 pp1, .slice oo2 nn2 pp2] 22
      replace ho := c.keep ho ((B.refl w8).alloc #[.slice oo1 nn1 pp1, .slice oo2 nn2 pp2] 22)
      replace hw := hw.keepB ((B.refl w8).alloc #[.slice oo1 nn1 pp1, .slice oo2 nn2 pp2] 22)
      generalize w8.alloc (.cells #[.slice oo1 nn1 pp1, .slice oo2 nn2 pp2] 22) = W1 at *
      generalize w8.heap.size = bb at *
      have G0 := Lib.hid g
      clear g
      go_loopw [109] (fun i wr => ∃ m : Nat, m ≤ 2 ∧ i = .int .i64 m ∧ T wr (.pointer (some po)) O ∧ RTab wr (.pointer (some pw)) O ∧ B W1 wr) (fun i _ => 2 - (intOf i).toNat)
      case atStart => exact ⟨0, Nat.zero_le _, rfl, ho, hw, B.refl _⟩
      case round =>
        clear ho hw
        obtain ⟨m, hm, rfl, ho, hw, g⟩ := hrel
        by_cases hm2 : m < 2
        · have hmB : decide ((m : Int) < 2) = true := decide_eq_true (by omega)
          obtain ⟨vs, l2, hc, hsecs, hrs⟩ := (T2.keep g) m hm2
          obtain ⟨os, ns, ps, rfl⟩ := hsecs.form
          have cA := fun w h => c.yes (.slice os ns ps) l2 w h hrs
          have cF := fun w h => own7_any (.slice os ns ps) l2 w h hrs
          have hb := tbnd_of hrs
          generalize slAll l2 = L at *
          go_wp2_with fail
          refine (cA _ hsecs).mono ?_
          rintro e w9 ⟨pt, rfl, ht, q⟩
          replace g := g.trans q
          replace ho := c.keep ho q
          replace hw := hw.keepB q
          replace hsecs := hsecs.keepB q
          clear q cA
          go_wp2_with fail
          refine (cF _ hsecs).mono ?_
          rintro e w10 ⟨pu_, rfl, hu, q⟩
          replace g := g.trans q
          replace ho := c.keep ho q
          replace ht := c.keep ht q
          replace hw := hw.keepB q
          obtain ⟨pu, rfl⟩ : ∃ a, pu_ = .pointer (some a) := by obtain ⟨b, _, _, _, _, h, _⟩ := hu; exact ⟨_, h⟩
          clear q cF hsecs hc hrs
          go_wp2
          have n10 := nums10 w10 48
          have qn : B w10 (w10.alloc (.cells #[.int .i64 vv, .int .i64 z, .int .i64 x4, .int .i64 x9, .int .i64 x2, .int .i64 300, .int .i64 vv, .int .i64 500, .int .i64 x4, .int .i64 z] 48)) := (B.refl _).alloc _ _
          replace ho := c.keep ho qn
          replace ht := c.keep ht qn
          replace hw := hw.keepB qn
          replace hu := hu.keepB qn
          replace g := g.trans qn
          clear qn
          generalize w10.alloc (.cells #[.int .i64 vv, .int .i64 z, .int .i64 x4, .int .i64 x9, .int .i64 x2, .int .i64 300, .int .i64 vv, .int .i64 500, .int .i64 x4, .int .i64 z] 48) = W5 at *
          generalize w10.heap.size = b5 at *
          have HO := Lib.hid ho
          have HT := Lib.hid ht
          have HW := Lib.hid hw
          have HU := Lib.hid hu
          have HG := Lib.hid g
          clear ho ht hw hu g
          obtain ⟨wq, rfl⟩ : ∃ wq : World, wq = wr := ⟨_, rfl⟩
          go_loopw [152] (fun i wr => ∃ a : Nat, a ≤ 5 ∧ i = .int .i64 a ∧ T wr (.pointer (some pt)) L ∧ T wr (.pointer (some po)) O ∧ RTab wr (.pointer (some pu)) L ∧ RTab wr (.pointer (some pw)) O ∧ B W5 wr) (fun i _ => 5 - (intOf i).toNat)
          case atStart => exact ⟨0, Nat.zero_le _, rfl, HT.out, HO.out, HU.out, HW.out, B.refl _⟩
          case round =>
            clear HO HT HW HU
            obtain ⟨a5, ha5, rfl, ht, ho, hu, hw, g⟩ := hrel
            by_cases ha6 : a5 < 5
            · have haB5 : decide ((a5 : Int) < 5) = true := decide_eq_true (by omega)
              have haI5 : (a5 : Int) < 5 := by omega
              have hc0 := g.keep (n10 a5 ha6).1
              have hc1 := g.keep (n10 a5 ha6).2
              have ix := (ips a5 ha6).1
              have iy := (ips a5 ha6).2
              generalize xs a5 = x at *
              generalize ys a5 = y at *
              have aS := fun w h1 h2 => surf_any c (.pointer (some pt)) (.pointer (some po)) L O x y w hb hbo ix iy h1 h2
              have rS := fun w h1 h2 => r7surf_any (.pointer (some pu)) (.pointer (some pw)) L O x y w hb hbo ix iy h1 h2
              have aT := fun w h1 h2 => truth_any c (.pointer (some pt)) (.pointer (some po)) L O x y part w hb hbo ix iy ipt h1 h2
              have rT := fun w h1 h2 => r7truth_any (.pointer (some pu)) (.pointer (some pw)) L O x y part w hb hbo ix iy h1 h2
              have aU := fun w h1 h2 => truth_any c (.pointer (some pt)) (.pointer (some po)) L O x y pp w hb hbo ix iy ipp h1 h2
              have rU := fun w h1 h2 => r7truth_any (.pointer (some pu)) (.pointer (some pw)) L O x y pp w hb hbo ix iy h1 h2
              generalize surfM L O x y = z1 at *
              generalize truthM L O x y part = z2 at *
              generalize truthM L O x y pp = z3 at *
              go_wp2_with fail
              have obp : (wr.alloc (.cells #[.int .i64 x, .int .i64 y] 48)).heap[wr.heap.size]? = some (.cells #[.int .i64 x, .int .i64 y] 48 (0, 0)) := obj_new _ _
              have qn : B wr (wr.alloc (.cells #[.int .i64 x, .int .i64 y] 48)) := (B.refl _).alloc _ _
              replace ho := c.keep ho qn
              replace ht := c.keep ht qn
              replace hw := hw.keepB qn
              replace hu := hu.keepB qn
              replace g := g.trans qn
              clear qn hc0 hc1
              generalize wr.alloc (.cells #[.int .i64 x, .int .i64 y] 48) = WP at *
              generalize wr.heap.size = pb at *
              have p0 := obj_cell obp 0
              have p1 := obj_cell obp 1
              clear obp
              replace g := g.drew
              refine wp_region_noPanic ?_
              refine wp_region_seq (S := fun w' => w'.cell? ⟨pb, 0, none⟩ = some (.int .i64 x) ∧ w'.cell? ⟨pb, 1, none⟩ = some (.int .i64 y) ∧ T w' (.pointer (some pt)) L ∧ T w' (.pointer (some po)) O ∧ RTab w' (.pointer (some pu)) L ∧ RTab w' (.pointer (some pw)) O) [(0, 0), (1, 0), (2, 0), (3, 0), (4, 0), (5, 0), (7, 0), (8, 0), (9, 0), (10, 0), (11, 0), (12, 0), (6, 2), (13, 2), (14, 0), (15, 0), (16, 0), (17, 0), (18, 0), (19, 0), (20, 0), (21, 0), (22, 0), (24, 0), (25, 0), (26, 0), (27, 0), (28, 0), (29, 0), (30, 0), (23, 2), (31, 2), (32, 0), (33, 0), (34, 0), (35, 0), (36, 0), (37, 0), (38, 0), (39, 0), (40, 0), (41, 0), (42, 0), (43, 0), (45, 0), (46, 0), (47, 0), (48, 0), (49, 0), (50, 0), (51, 0), (52, 0), (53, 0), (44, 2), (54, 2), (55, 0), (56, 0)] [0, 0, 0, 4, 0, 16, 43, 0, 0, 0, 512, 0, 2048, 5568, 8256, 24576, 32768, 32768, 32768, 294912, 32768, 1081344, 32768, 7045120, 32768, 32768, 32768, 67141632, 32768, 268468224, 32768, 1803583488, 2155905024, 4295000064, 10737418240, 17179869184, 17179869184, 17179869184, 154618822656, 17179869184, 566935683072, 17179869184, 2216203124736, 4415226380288, 10290741641216, 17179869184, 17179869184, 17179869184, 140754668224512, 17179869184, 562967133290496, 17179869184, 2251816993554432, 4503616807239680, 10537736620474368, 18032007875395584, 36028814198833152] [0, 0, 0, 4, 0, 16, 43, 0, 0, 0, 512, 0, 2048, 5504, 8256, 16384, 32768, 32768, 32768, 294912, 32768, 1081344, 32768, 7045120, 32768, 32768, 32768, 67141632, 32768, 268468224, 32768, 1795194880, 2155905024, 4295000064, 8589934592, 17179869184, 17179869184, 17179869184, 154618822656, 17179869184, 566935683072, 17179869184, 2216203124736, 4415226380288, 10290741641216, 17179869184, 17179869184, 17179869184, 140754668224512, 17179869184, 562967133290496, 17179869184, 2251816993554432, 4503616807239680, 10520144434429952, 18032007875395584, 36028814198833152] (by kernel_rfl) (by kernel_rfl) (fun _ _ _ _ _ h => h) ?_ (fun hH => ?_)
              · exact ⟨p0, p1, c.keep ht (B.refl _).drew, c.keep ho (B.refl _).drew, hu.keepB (B.refl _).drew, hw.keepB (B.refl _).drew⟩
              refine wpSeq_take (d := 156) (v := ?_) rfl rfl (by kernel_rfl) (fun w hS => ?_) ?_
              rotate_left
              · go_simp <;> with_reducible rfl
              dsimp only [List.set_cons_zero, List.set_cons_succ]
              refine wpSeq_take (d := 157) (v := ?_) rfl rfl (by kernel_rfl) (fun w hS => ?_) ?_
              rotate_left
              · go_simp <;> with_reducible rfl
              dsimp only [List.set_cons_zero, List.set_cons_succ]
              refine wpSeq_take (d := 158) (v := ?_) rfl rfl (by kernel_rfl) (fun w hS => ?_) ?_
              rotate_left
              · go_simp <;> with_reducible rfl
              dsimp only [List.set_cons_zero, List.set_cons_succ]
              refine wpSeq_take (d := 159) (v := ?_) rfl rfl (by kernel_rfl) (fun w hS => ?_) ?_
              rotate_left
              · go_simp <;> with_reducible rfl
              dsimp only [List.set_cons_zero, List.set_cons_succ]
              refine wpSeq_take (d := 160) (v := ?_) rfl rfl (by kernel_rfl) (fun w hS => ?_) ?_
              rotate_left
              · go_simp <;> with_reducible rfl
              dsimp only [List.set_cons_zero, List.set_cons_succ]
              refine wpSeq_take (d := 161) (v := ?_) rfl rfl (by kernel_rfl) (fun w hS => ?_) ?_
              rotate_left
              · go_simp <;> with_reducible rfl
              dsimp only [List.set_cons_zero, List.set_cons_succ]
              refine wpSeq_take (d := 163) (v := ?_) rfl rfl (by kernel_rfl) (fun w hS => ?_) ?_
              rotate_left
              · go_simp <;> with_reducible rfl
              dsimp only [List.set_cons_zero, List.set_cons_succ]
              refine wpSeq_take (d := 164) (v := ?_) rfl rfl (by kernel_rfl) (fun w hS => ?_) ?_
              rotate_left
              · go_simp <;> with_reducible rfl
              dsimp only [List.set_cons_zero, List.set_cons_succ]
              refine wpSeq_take (d := 165) (v := ?_) rfl rfl (by kernel_rfl) (fun w hS => ?_) ?_
              rotate_left
              · go_simp <;> with_reducible rfl
              dsimp only [List.set_cons_zero, List.set_cons_succ]
              refine wpSeq_take (d := 166) (v := ?_) rfl rfl (by kernel_rfl) (fun w hS => ?_) ?_
              rotate_left
              · go_simp <;> with_reducible rfl
              dsimp only [List.set_cons_zero, List.set_cons_succ]
              refine wpSeq_take (d := 167) (v := ?_) rfl rfl (by kernel_rfl) (fun w hS => ?_) ?_
              rotate_left
              · go_simp <;> with_reducible rfl
              dsimp only [List.set_cons_zero, List.set_cons_succ]
              refine wpSeq_take (d := 168) (v := ?_) rfl rfl (by kernel_rfl) (fun w hS => ?_) ?_
              rotate_left
              · go_simp <;> with_reducible rfl
              dsimp only [List.set_cons_zero, List.set_cons_succ]
              refine wpSeq_call rfl (by kernel_rfl) (fun K hK => ?_)
              go_simp
              (with_reducible refine (aS _ hH.2.2.1 hH.2.2.2.1).mono ?_)
              rintro e w' ⟨rfl, hq⟩
              replace g := g.trans hq
              refine hK.out _ _ ?_ (fun hH => ?_)
              · exact ⟨hq.keep hH.1, hq.keep hH.2.1, c.keep hH.2.2.1 hq, c.keep hH.2.2.2.1 hq, hH.2.2.2.2.1.keepB hq, hH.2.2.2.2.2.keepB hq⟩
              clear hK
              refine wpSeq_call rfl (by kernel_rfl) (fun K hK => ?_)
              go_simp
              (with_reducible refine (rS _ hH.2.2.2.2.1 hH.2.2.2.2.2).mono ?_)
              rintro e w' ⟨rfl, hq⟩
              replace g := g.trans hq
              refine hK.out _ _ ?_ (fun hH => ?_)
              · exact ⟨hq.keep hH.1, hq.keep hH.2.1, c.keep hH.2.2.1 hq, c.keep hH.2.2.2.1 hq, hH.2.2.2.2.1.keepB hq, hH.2.2.2.2.2.keepB hq⟩
              clear hK
              refine wpSeq_take (d := 170) (v := ?_) rfl rfl (by kernel_rfl) (fun w hS => ?_) ?_
              rotate_left
              · go_simp <;> with_reducible rfl
              dsimp only [List.set_cons_zero, List.set_cons_succ]
              refine wpSeq_take (d := 171) (v := ?_) rfl rfl (by kernel_rfl) (fun w hS => ?_) ?_
              rotate_left
              · go_simp <;> with_reducible rfl
              dsimp only [List.set_cons_zero, List.set_cons_succ]
              refine wpSeq_take (d := 172) (v := ?_) rfl rfl (by kernel_rfl) (fun w hS => ?_) ?_
              rotate_left
              · go_simp <;> with_reducible rfl
              dsimp only [List.set_cons_zero, List.set_cons_succ]
              refine wpSeq_take (d := 173) (v := ?_) rfl rfl (by kernel_rfl) (fun w hS => ?_) ?_
              rotate_left
              · go_simp <;> with_reducible rfl
              dsimp only [List.set_cons_zero, List.set_cons_succ]
              refine wpSeq_take (d := 174) (v := ?_) rfl rfl (by kernel_rfl) (fun w hS => ?_) ?_
              rotate_left
              · go_simp <;> with_reducible rfl
              dsimp only [List.set_cons_zero, List.set_cons_succ]
              refine wpSeq_take (d := 175) (v := ?_) rfl rfl (by kernel_rfl) (fun w hS => ?_) ?_
              rotate_left
              · go_simp <;> with_reducible rfl
              dsimp only [List.set_cons_zero, List.set_cons_succ]
              refine wpSeq_take (d := 176) (v := ?_) rfl rfl (by kernel_rfl) (fun w hS => ?_) ?_
              rotate_left
              · go_simp <;> with_reducible rfl
              dsimp only [List.set_cons_zero, List.set_cons_succ]
              refine wpSeq_take (d := 177) (v := ?_) rfl rfl (by kernel_rfl) (fun w hS => ?_) ?_
              rotate_left
              · go_simp <;> with_reducible rfl
              dsimp only [List.set_cons_zero, List.set_cons_succ]
              refine wpSeq_take (d := 178) (v := ?_) rfl rfl (by kernel_rfl) (fun w hS => ?_) ?_
              rotate_left
              · go_simp <;> with_reducible rfl
              dsimp only [List.set_cons_zero, List.set_cons_succ]
              refine wpSeq_take (d := 180) (v := ?_) rfl rfl (by kernel_rfl) (fun w hS => ?_) ?_
              rotate_left
              · go_simp <;> with_reducible rfl
              dsimp only [List.set_cons_zero, List.set_cons_succ]
              refine wpSeq_take (d := 181) (v := ?_) rfl rfl (by kernel_rfl) (fun w hS => ?_) ?_
              rotate_left
              · go_simp <;> with_reducible rfl
              dsimp only [List.set_cons_zero, List.set_cons_succ]
              refine wpSeq_take (d := 182) (v := ?_) rfl rfl (by kernel_rfl) (fun w hS => ?_) ?_
              rotate_left
              · go_simp <;> with_reducible rfl
              dsimp only [List.set_cons_zero, List.set_cons_succ]
              refine wpSeq_take (d := 183) (v := ?_) rfl rfl (by kernel_rfl) (fun w hS => ?_) ?_
              rotate_left
              · go_simp <;> with_reducible rfl
              dsimp only [List.set_cons_zero, List.set_cons_succ]
              refine wpSeq_take (d := 184) (v := ?_) rfl rfl (by kernel_rfl) (fun w hS => ?_) ?_
              rotate_left
              · go_simp <;> with_reducible rfl
              dsimp only [List.set_cons_zero, List.set_cons_succ]
              refine wpSeq_take (d := 185) (v := ?_) rfl rfl (by kernel_rfl) (fun w hS => ?_) ?_
              rotate_left
              · go_simp <;> with_reducible rfl
              dsimp only [List.set_cons_zero, List.set_cons_succ]
              refine wpSeq_take (d := 186) (v := ?_) rfl rfl (by kernel_rfl) (fun w hS => ?_) ?_
              rotate_left
              · go_simp <;> with_reducible rfl
              dsimp only [List.set_cons_zero, List.set_cons_succ]
              refine wpSeq_call rfl (by kernel_rfl) (fun K hK => ?_)
              go_simp
              (with_reducible refine (aT _ hH.2.2.1 hH.2.2.2.1).mono ?_)
              rintro e w' ⟨rfl, hq⟩
              replace g := g.trans hq
              refine hK.out _ _ ?_ (fun hH => ?_)
              · exact ⟨hq.keep hH.1, hq.keep hH.2.1, c.keep hH.2.2.1 hq, c.keep hH.2.2.2.1 hq, hH.2.2.2.2.1.keepB hq, hH.2.2.2.2.2.keepB hq⟩
              clear hK
              refine wpSeq_call rfl (by kernel_rfl) (fun K hK => ?_)
              go_simp
              (with_reducible refine (rT _ hH.2.2.2.2.1 hH.2.2.2.2.2).mono ?_)
              rintro e w' ⟨rfl, hq⟩
              replace g := g.trans hq
              refine hK.out _ _ ?_ (fun hH => ?_)
              · exact ⟨hq.keep hH.1, hq.keep hH.2.1, c.keep hH.2.2.1 hq, c.keep hH.2.2.2.1 hq, hH.2.2.2.2.1.keepB hq, hH.2.2.2.2.2.keepB hq⟩
              clear hK
              refine wpSeq_take (d := 188) (v := ?_) rfl rfl (by kernel_rfl) (fun w hS => ?_) ?_
              rotate_left
              · go_simp <;> with_reducible rfl
              dsimp only [List.set_cons_zero, List.set_cons_succ]
              refine wpSeq_take (d := 189) (v := ?_) rfl rfl (by kernel_rfl) (fun w hS => ?_) ?_
              rotate_left
              · go_simp <;> with_reducible rfl
              dsimp only [List.set_cons_zero, List.set_cons_succ]
              refine wpSeq_take (d := 190) (v := ?_) rfl rfl (by kernel_rfl) (fun w hS => ?_) ?_
              rotate_left
              · go_simp <;> with_reducible rfl
              dsimp only [List.set_cons_zero, List.set_cons_succ]
              refine wpSeq_take (d := 191) (v := ?_) rfl rfl (by kernel_rfl) (fun w hS => ?_) ?_
              rotate_left
              · go_simp <;> with_reducible rfl
              dsimp only [List.set_cons_zero, List.set_cons_succ]
              refine wpSeq_take (d := 192) (v := ?_) rfl rfl (by kernel_rfl) (fun w hS => ?_) ?_
              rotate_left
              · go_simp <;> with_reducible rfl
              dsimp only [List.set_cons_zero, List.set_cons_succ]
              refine wpSeq_take (d := 193) (v := ?_) rfl rfl (by kernel_rfl) (fun w hS => ?_) ?_
              rotate_left
              · go_simp <;> with_reducible rfl
              dsimp only [List.set_cons_zero, List.set_cons_succ]
              refine wpSeq_take (d := 194) (v := ?_) rfl rfl (by kernel_rfl) (fun w hS => ?_) ?_
              rotate_left
              · go_simp <;> with_reducible rfl
              dsimp only [List.set_cons_zero, List.set_cons_succ]
              refine wpSeq_take (d := 195) (v := ?_) rfl rfl (by kernel_rfl) (fun w hS => ?_) ?_
              rotate_left
              · go_simp <;> with_reducible rfl
              dsimp only [List.set_cons_zero, List.set_cons_succ]
              refine wpSeq_take (d := 196) (v := ?_) rfl rfl (by kernel_rfl) (fun w hS => ?_) ?_
              rotate_left
              · go_simp <;> with_reducible rfl
              dsimp only [List.set_cons_zero, List.set_cons_succ]
              refine wpSeq_take (d := 197) (v := ?_) rfl rfl (by kernel_rfl) (fun w hS => ?_) ?_
              rotate_left
              · go_simp <;> with_reducible rfl
              dsimp only [List.set_cons_zero, List.set_cons_succ]
              refine wpSeq_take (d := 198) (v := ?_) rfl rfl (by kernel_rfl) (fun w hS => ?_) ?_
              rotate_left
              · go_simp <;> with_reducible rfl
              dsimp only [List.set_cons_zero, List.set_cons_succ]
              refine wpSeq_take (d := 199) (v := ?_) rfl rfl (by kernel_rfl) (fun w hS => ?_) ?_
              rotate_left
              · go_simp <;> with_reducible rfl
              dsimp only [List.set_cons_zero, List.set_cons_succ]
              refine wpSeq_take (d := 201) (v := ?_) rfl rfl (by kernel_rfl) (fun w hS => ?_) ?_
              rotate_left
              · go_simp <;> with_reducible rfl
              dsimp only [List.set_cons_zero, List.set_cons_succ]
              refine wpSeq_take (d := 202) (v := ?_) rfl rfl (by kernel_rfl) (fun w hS => ?_) ?_
              rotate_left
              · go_simp <;> with_reducible rfl
              dsimp only [List.set_cons_zero, List.set_cons_succ]
              refine wpSeq_take (d := 203) (v := ?_) rfl rfl (by kernel_rfl) (fun w hS => ?_) ?_
              rotate_left
              · go_simp <;> with_reducible rfl
              dsimp only [List.set_cons_zero, List.set_cons_succ]
              refine wpSeq_take (d := 204) (v := ?_) rfl rfl (by kernel_rfl) (fun w hS => ?_) ?_
              rotate_left
              · go_simp <;> with_reducible rfl
              dsimp only [List.set_cons_zero, List.set_cons_succ]
              refine wpSeq_take (d := 205) (v := ?_) rfl rfl (by kernel_rfl) (fun w hS => ?_) ?_
              rotate_left
              · go_simp <;> with_reducible rfl
              dsimp only [List.set_cons_zero, List.set_cons_succ]
              refine wpSeq_take (d := 206) (v := ?_) rfl rfl (by kernel_rfl) (fun w hS => ?_) ?_
              rotate_left
              · go_simp <;> with_reducible rfl
              dsimp only [List.set_cons_zero, List.set_cons_succ]
              refine wpSeq_take (d := 207) (v := ?_) rfl rfl (by kernel_rfl) (fun w hS => ?_) ?_
              rotate_left
              · go_simp <;> with_reducible rfl
              dsimp only [List.set_cons_zero, List.set_cons_succ]
              refine wpSeq_take (d := 208) (v := ?_) rfl rfl (by kernel_rfl) (fun w hS => ?_) ?_
              rotate_left
              · go_simp <;> with_reducible rfl
              dsimp only [List.set_cons_zero, List.set_cons_succ]
              refine wpSeq_take (d := 209) (v := ?_) rfl rfl (by kernel_rfl) (fun w hS => ?_) ?_
              rotate_left
              · go_simp <;> with_reducible rfl
              dsimp only [List.set_cons_zero, List.set_cons_succ]
              refine wpSeq_call rfl (by kernel_rfl) (fun K hK => ?_)
              go_simp
              (with_reducible refine (aU _ hH.2.2.1 hH.2.2.2.1).mono ?_)
              rintro e w' ⟨rfl, hq⟩
              replace g := g.trans hq
              refine hK.out _ _ ?_ (fun hH => ?_)
              · exact ⟨hq.keep hH.1, hq.keep hH.2.1, c.keep hH.2.2.1 hq, c.keep hH.2.2.2.1 hq, hH.2.2.2.2.1.keepB hq, hH.2.2.2.2.2.keepB hq⟩
              clear hK
              refine wpSeq_call rfl (by kernel_rfl) (fun K hK => ?_)
              go_simp
              (with_reducible refine (rU _ hH.2.2.2.2.1 hH.2.2.2.2.2).mono ?_)
              rintro e w' ⟨rfl, hq⟩
              replace g := g.trans hq
              refine hK.out _ _ ?_ (fun hH => ?_)
              · exact ⟨hq.keep hH.1, hq.keep hH.2.1, c.keep hH.2.2.1 hq, c.keep hH.2.2.2.1 hq, hH.2.2.2.2.1.keepB hq, hH.2.2.2.2.2.keepB hq⟩
              clear hK
              refine wpSeq_take (d := 211) (v := ?_) rfl rfl (by kernel_rfl) (fun w hS => ?_) ?_
              rotate_left
              · go_simp <;> with_reducible rfl
              dsimp only [List.set_cons_zero, List.set_cons_succ]
              refine wpSeq_take (d := 212) (v := ?_) rfl rfl (by kernel_rfl) (fun w hS => ?_) ?_
              rotate_left
              · go_simp <;> with_reducible rfl
              dsimp only [List.set_cons_zero, List.set_cons_succ]
              refine wpSeq_done ?_
              refine NoPanic.normal ?_
              clear ht ho hu hw
              obtain ⟨_, _, ht, ho, hu, hw⟩ := hH
              clear p0 p1 aS rS aT rT aU rU
              go_wp2
              go_roundw
              case rel => exact ⟨a5 + 1, by omega, by go_num, ht, ho, hu, hw, g⟩
              case measure => simp [intOf]; omega
            · have haB5 : decide ((a5 : Int) < 5) = false := decide_eq_false (by omega)
              replace g := HG.out.trans g
              clear n10 HG
              go_wp2
              go_roundw
              case rel => exact ⟨m + 1, by omega, by go_num, ho, hw, g⟩
              case measure => simp [intOf]; omega
        · have hmB : decide ((m : Int) < 2) = false := decide_eq_false (by omega)
          replace g := G0.out.trans g
          clear nums10 ips T2
          go_wp2_with fail
          refine (cN1 _).mono ?_
          rintro e wS ⟨rfl, q⟩
          replace g := g.trans q
          clear q
          go_wp2_with fail
          refine (cN2 _ _).mono ?_
          rintro e wS ⟨rfl, q⟩
          replace g := g.trans q
          clear q
          go_wp2_with fail
          refine (cN3 _).mono ?_
          rintro e wS ⟨rfl, q⟩
          replace g := g.trans q
          clear q
          go_wp2
          go_ret
          exact ⟨rfl, g⟩
end Go.Proofs.Ytkiepmfknbbeaaa
