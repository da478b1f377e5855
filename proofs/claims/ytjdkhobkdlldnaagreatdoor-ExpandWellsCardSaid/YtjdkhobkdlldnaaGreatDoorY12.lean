/-
  Layer 11: copied: a deck in new memory; The code's filled wells: a map of wells.
-/
import Derived.DeepKeys4
import Derived.Test.YtjdkhobkdlldnaaGreatDoorY1
import Derived.Test.YtjdkhobkdlldnaaGreatDoorY2
import Derived.Test.YtjdkhobkdlldnaaGreatDoorY3
import Derived.Test.YtjdkhobkdlldnaaGreatDoorY4
import Derived.Test.YtjdkhobkdlldnaaGreatDoorY5
import Derived.Test.YtjdkhobkdlldnaaGreatDoorY6
import Derived.Test.YtjdkhobkdlldnaaGreatDoorY10
import Derived.Test.YtjdkhobkdlldnaaGreatDoorY11
namespace Go.Proofs.YtjdkhobkdlldnaaGreatDoor
open Go.RowKit
set_option linter.unusedVariables false
set_option maxRecDepth 100000 in
set_option maxHeartbeats 4000000 in
theorem copied_any (wv tv fv : Value) (d : Dk) (w : World) (h : IsDk w wv tv fv d) (hw100 : ∀ r ∈ d.ws, r.l.length ≤ 1000000) (ht100 : ∀ r ∈ d.ts, r.l.length ≤ 1000000) (hw9 : d.ws.length ≤ 1000000) (ht9 : d.ts.length ≤ 1000000) (hf9 : d.fs.length ≤ 1000000) :
    Calls Tryz.prog 80 #[.agg #[wv, tv, fv]] w fun e w' => ∃ o1 c1 o2 c2 o3 c3 ss tt, e = .returned (.agg #[.slice o1 d.ws.length c1, .slice o2 d.ts.length c2, .slice o3 d.fs.length c3]) ∧ OwnD w' w.heap.size (.slice o1 d.ws.length c1) (.slice o2 d.ts.length c2) (.slice o3 d.fs.length c3) d ss tt ∧ B w w' := by
  obtain ⟨ao, ac, bo, bc, co, cc, rfl, rfl, rfl⟩ := h.forms
  obtain ⟨vsw, hvw1, hvw2, hvw3⟩ := recs_vs h.ws
  obtain ⟨vst, hvt1, hvt2, hvt3⟩ := recs_vs h.ts
  have hwi : ∀ r ∈ d.ws, ∀ s ∈ r.l, s.I := fun r hr => by
    obtain ⟨i, hi, e⟩ := List.getElem_of_mem hr
    have := hvw2 i r _ (by rw [List.getElem?_eq_getElem hi, e]) (List.getElem?_eq_getElem (by omega))
    exact secs_I this
  have hti : ∀ r ∈ d.ts, ∀ s ∈ r.l, s.I := fun r hr => by
    obtain ⟨i, hi, e⟩ := List.getElem_of_mem hr
    have := hvt2 i r _ (by rw [List.getElem?_eq_getElem hi, e]) (List.getElem?_eq_getElem (by omega))
    exact secs_I this
  have hone1 := vs_one hvw1 hvw2
  have hone2 := vs_one hvt1 hvt2
  have hfs := h.fs
  obtain ⟨XW, hXW⟩ : ∃ XW, flatR d.ws vsw = XW := ⟨_, rfl⟩
  obtain ⟨XT, hXT⟩ : ∃ XT, flatR d.ts vst = XT := ⟨_, rfl⟩
  obtain ⟨XF, hXF⟩ : ∃ XF, flatF d.fs = XF := ⟨_, rfl⟩
  have qa : B w ((w.alloc (.cells #[.slice ao d.ws.length ac, .slice bo d.ts.length bc, .slice co d.fs.length cc] 26)).alloc (.cells #[.slice none 0 0, .slice none 0 0, .slice none 0 0] 26)) := ((B.refl w).alloc _ _).alloc _ _
  have oD : ((w.alloc (.cells #[.slice ao d.ws.length ac, .slice bo d.ts.length bc, .slice co d.fs.length cc] 26)).alloc (.cells #[.slice none 0 0, .slice none 0 0, .slice none 0 0] 26)).heap[w.heap.size]? = some (.cells #[.slice ao d.ws.length ac, .slice bo d.ts.length bc, .slice co d.fs.length cc] 26 (0, 0)) := obj_past (obj_new w _) _
  have oR : ((w.alloc (.cells #[.slice ao d.ws.length ac, .slice bo d.ts.length bc, .slice co d.fs.length cc] 26)).alloc (.cells #[.slice none 0 0, .slice none 0 0, .slice none 0 0] 26)).heap[w.heap.size + 1]? = some (.cells #[.slice none 0 0, .slice none 0 0, .slice none 0 0] 26 (0, 0)) := by
    have := obj_new (w.alloc (.cells #[.slice ao d.ws.length ac, .slice bo d.ts.length bc, .slice co d.fs.length cc] 26)) (.cells #[.slice none 0 0, .slice none 0 0, .slice none 0 0] 26)
    simpa using this
  have hsz : ((w.alloc (.cells #[.slice ao d.ws.length ac, .slice bo d.ts.length bc, .slice co d.fs.length cc] 26)).alloc (.cells #[.slice none 0 0, .slice none 0 0, .slice none 0 0] 26)).heap.size = w.heap.size + 2 := by simp
  go_enter Tryz.func80, Tryz.ntmps80
  go_wp2_with fail
  generalize ((w.alloc (.cells #[.slice ao d.ws.length ac, .slice bo d.ts.length bc, .slice co d.fs.length cc] 26)).alloc (.cells #[.slice none 0 0, .slice none 0 0, .slice none 0 0] 26)) = U0 at *
  generalize hD : w.heap.size = D at *
  generalize hR : D + 1 = R at *
  obtain ⟨nw, hnw⟩ : ∃ nw, d.ws.length = nw := ⟨_, rfl⟩
  obtain ⟨nt, hnt⟩ : ∃ nt, d.ts.length = nt := ⟨_, rfl⟩
  obtain ⟨nf, hnf⟩ : ∃ nf, d.fs.length = nf := ⟨_, rfl⟩

  rw [hnw, hnt, hnf] at oD
  have cW := fun w' (q : B U0 w') => lware_any (.slice ao d.ws.length ac) d.ws vsw w' (hvw3.keepB (qa.trans q)) hvw1 hone1 hw9
  have cT := fun w' (q : B U0 w') => ltip_any (.slice bo d.ts.length bc) d.ts vst w' (hvt3.keepB (qa.trans q)) hvt1 hone2 ht9
  have cF := fun w' (q : B U0 w') => lfill_any (.slice co d.fs.length cc) d.fs w' (hfs.keepB (qa.trans q)) hf9
  rw [hnw, hXW] at cW
  rw [hnt, hXT] at cT
  rw [hnf, hXF] at cF
  obtain ⟨k, hkk⟩ : ∃ k, U0.heap.size = k := ⟨_, rfl⟩
  have hk : k ≤ U0.heap.size := Nat.le_of_eq hkk.symm
  have hwk : D ≤ k := by omega
  have hRk : R < k := by omega
  have HE := Lib.hid (And.intro hwi (And.intro hti (And.intro hvw1 (And.intro hvt1 (And.intro hvw2 hvt2)))))
  rw [hnw, hnt, hnf]
  have HN := Lib.hid (And.intro hnw (And.intro hnt (And.intro hnf (And.intro hXW (And.intro hXT (And.intro hXF (And.intro hw9 (And.intro ht9 hf9))))))))
  have k0 : U0.cell? ⟨D, 0, none⟩ = some (.slice ao nw ac) := obj_cell (w := U0) oD 0
  have k1 : U0.cell? ⟨D, 1, none⟩ = some (.slice bo nt bc) := obj_cell (w := U0) oD 1
  have k2 : U0.cell? ⟨D, 2, none⟩ = some (.slice co nf cc) := obj_cell (w := U0) oD 2
  replace oR : U0.heap[R]? = some (.cells #[.slice none 0 0, .slice none 0 0, .slice none 0 0] 26 (0, 0)) := oR
  have b0 : B w U0 := qa
  clear hvw3 hvt3 hone1 hone2 hfs h hwi hti hvw1 hvt1 hvw2 hvt2 hw9 ht9 hf9 hnw hnt hnf hXW hXT hXF qa oD hsz
  refine wp_region_noPanic ?_
  refine wp_region_slots [(0, 6), (1, 7), (2, 8), (3, 9), (4, 10), (5, 11), (6, 12), (7, 13), (8, 14), (9, 15), (10, 3)] [(11, 2)] [0, 1, 2, 0, 8, 20, 0, 64, 160, 292, 0, 2047] [0, 1, 2, 0, 8, 16, 0, 64, 128, 292, 0, 1536] [0, 1, 3, 0, 8, 31, 0, 64, 255, 511, 0, 2047] 2047 [(fun v _ => v = .pointer (some ⟨D, 0, none⟩)), (fun v _ => v = .slice ao nw ac), (OwnV k 33 5 nw XW), (fun v _ => v = .pointer (some ⟨D, 1, none⟩)), (fun v _ => v = .slice bo nt bc), (OwnV k 35 5 nt XT), (fun v _ => v = .pointer (some ⟨D, 2, none⟩)), (fun v _ => v = .slice co nf cc), (OwnV k 41 4 nf XF), (OwnA k nw nt nf XW XT XF), (BoxV k)] (by kernel_rfl) (by kernel_rfl) (fun _ _ _ _ h => h) ⟨slot_val _, slot_val _, slot_own _ _ _ _ _, slot_val _, slot_val _, slot_own _ _ _ _ _, slot_val _, slot_val _, slot_own _ _ _ _ _, slot_owna _ _ _ _ _ _ _, slot_box _, trivial⟩ ⟨?_, ?_, ?_, ?_, ?_, ?_, ?_, ?_, ?_, ?_, ?_, trivial⟩ ?_
  · intro f w' hf hB
    clear hf
    refine slot_op rfl (fun _ => rfl) (fun T hT K hK => ?_)
    simp only [putsL, List.set_cons_zero, List.set_cons_succ] at hT
    subst hT
    go_simp
    exact hK.out _ _ rfl (B.refl _)
  · intro f w' hf hB
    have h0 := hf (0, 6) (by simp) (by rfl)
    clear hf
    have e0 : f 0 = _ := h0
    have kk := hB.keep k0
    refine slot_op rfl (fun _ => rfl) (fun T hT K hK => ?_)
    simp only [putsL, List.set_cons_zero, List.set_cons_succ, e0] at hT
    subst hT
    go_simp
    exact hK.out _ _ rfl (B.refl _)
  · intro f w' hf hB
    have h1 := hf (1, 7) (by simp) (by rfl)
    clear hf
    have e1 : f 1 = _ := h1
    refine slot_op rfl (fun _ => rfl) (fun T hT K hK => ?_)
    simp only [putsL, List.set_cons_zero, List.set_cons_succ, e1] at hT
    subst hT
    go_simp
    (with_reducible refine (cW _ hB).mono ?_)
    rintro e w2 ⟨o, c, rfl, hown, q⟩
    exact hK.out _ _ ⟨o, c, rfl, own_low hown (Nat.le_trans hk (hB.below.size))⟩ q
  · intro f w' hf hB
    clear hf
    refine slot_op rfl (fun _ => rfl) (fun T hT K hK => ?_)
    simp only [putsL, List.set_cons_zero, List.set_cons_succ] at hT
    subst hT
    go_simp
    exact hK.out _ _ rfl (B.refl _)
  · intro f w' hf hB
    have h3 := hf (3, 9) (by simp) (by rfl)
    clear hf
    have e3 : f 3 = _ := h3
    have kk := hB.keep k1
    refine slot_op rfl (fun _ => rfl) (fun T hT K hK => ?_)
    simp only [putsL, List.set_cons_zero, List.set_cons_succ, e3] at hT
    subst hT
    go_simp
    exact hK.out _ _ rfl (B.refl _)
  · intro f w' hf hB
    have h4 := hf (4, 10) (by simp) (by rfl)
    clear hf
    have e4 : f 4 = _ := h4
    refine slot_op rfl (fun _ => rfl) (fun T hT K hK => ?_)
    simp only [putsL, List.set_cons_zero, List.set_cons_succ, e4] at hT
    subst hT
    go_simp
    (with_reducible refine (cT _ hB).mono ?_)
    rintro e w2 ⟨o, c, rfl, hown, q⟩
    exact hK.out _ _ ⟨o, c, rfl, own_low hown (Nat.le_trans hk (hB.below.size))⟩ q
  · intro f w' hf hB
    clear hf
    refine slot_op rfl (fun _ => rfl) (fun T hT K hK => ?_)
    simp only [putsL, List.set_cons_zero, List.set_cons_succ] at hT
    subst hT
    go_simp
    exact hK.out _ _ rfl (B.refl _)
  · intro f w' hf hB
    have h6 := hf (6, 12) (by simp) (by rfl)
    clear hf
    have e6 : f 6 = _ := h6
    have kk := hB.keep k2
    refine slot_op rfl (fun _ => rfl) (fun T hT K hK => ?_)
    simp only [putsL, List.set_cons_zero, List.set_cons_succ, e6] at hT
    subst hT
    go_simp
    exact hK.out _ _ rfl (B.refl _)
  · intro f w' hf hB
    have h7 := hf (7, 13) (by simp) (by rfl)
    clear hf
    have e7 : f 7 = _ := h7
    refine slot_op rfl (fun _ => rfl) (fun T hT K hK => ?_)
    simp only [putsL, List.set_cons_zero, List.set_cons_succ, e7] at hT
    subst hT
    go_simp
    (with_reducible refine (cF _ hB).mono ?_)
    rintro e w2 ⟨o, c, rfl, hown, q⟩
    exact hK.out _ _ ⟨o, c, rfl, own_low hown (Nat.le_trans hk (hB.below.size))⟩ q
  · intro f w' hf hB
    have h2 := hf (2, 8) (by simp) (by rfl)
    have h5 := hf (5, 11) (by simp) (by rfl)
    have h8 := hf (8, 14) (by simp) (by rfl)
    clear hf
    obtain ⟨o1, c1, e2, r1⟩ := h2
    obtain ⟨o2, c2, e5, r2⟩ := h5
    obtain ⟨o3, c3, e8, r3⟩ := h8
    refine slot_op rfl (fun _ => rfl) (fun T hT K hK => ?_)
    simp only [putsL, List.set_cons_zero, List.set_cons_succ, e2, e5, e8] at hT
    subst hT
    go_simp
    exact hK.out _ _ ⟨o1, c1, o2, c2, o3, c3, rfl, r1, r2, r3⟩ (B.refl _)
  · intro f w' hf hB
    clear hf
    refine slot_op rfl (fun _ => rfl) (fun T hT K hK => ?_)
    simp only [putsL, List.set_cons_zero, List.set_cons_succ] at hT
    subst hT
    go_simp
    exact hK.out _ _ ⟨_, rfl, obj_new _ _, Nat.le_trans hk hB.below.size⟩ ((B.refl _).alloc _ _)
  · intro f w' hf hB T hT
    have h9 := hf (9, 15) (by simp)
    have h10 := hf (10, 3) (by simp)
    obtain ⟨o1, c1, o2, c2, o3, c3, e9, r1, r2, r3⟩ := h9
    obtain ⟨C, e10, oC, hkC⟩ := h10
    clear hf
    simp only [putsL, List.set_cons_zero, List.set_cons_succ, e9, e10] at hT
    subst hT
    have y0 := obj_cell oC 0
    have y1 := obj_cell oC 1
    have y2 := obj_cell oC 2
    have z0 := obj_free oC 0
    have z1 := obj_free oC 1
    have z2 := obj_free oC 2
    refine wpSeq_call rfl (by kernel_rfl) (fun K hK => ?_)
    go_simp
    refine hK.out _ _ trivial (fun _ => ?_)
    clear hK
    refine wpSeq_done ?_
    refine NoPanic.normal ?_
    have oC2 := obj_three oC (.slice o1 nw c1) (.slice o2 nt c2) (.slice o3 nf c3)
    have g2 := g_three w' C (.slice o1 nw c1) (.slice o2 nt c2) (.slice o3 nf c3)
    have s1 := own_objG r1 oC (by decide) g2
    have s2 := own_objG r2 oC (by decide) g2
    have s3 := own_objG r3 oC (by decide) g2
    have b2 := g2.b hB (fun i hi => by subst hi; rw [hkk]; exact hkC)
    have oR2 := b2.obj oR
    have HK := hkC
    clear r1 r2 r3 oC g2 y0 y1 y2 z0 z1 z2 hB e9 e10 k0 k1 k2 hkC
    generalize ((w'.setCell ⟨C, 0, none⟩ (.slice o1 nw c1)).setCell ⟨C, 1, none⟩ (.slice o2 nt c2)).setCell ⟨C, 2, none⟩ (.slice o3 nf c3) = W1 at *
    obtain ⟨hwi, hti, hvw1, hvt1, hvw2, hvt2⟩ := HE.out
    obtain ⟨hnw, hnt, hnf, hXW, hXT, hXF, hw9, ht9, hf9⟩ := HN.out
    have bw1 : B w W1 := b0.trans b2
    have hkC : k ≤ C := HK
    have yC0 := obj_cell oC2 0
    rw [← hXW] at s1
    clear HE HN cW cT cF hXW b0 b2 hkk oR HK
    go_wp2_with fail
    go_loopw [19] (fun iv wr => ∃ (i : Nat) (ss : List Value), i ≤ nw ∧ iv = .int .i64 i ∧ LpAt d.ws w wr W1 k C nw (.slice o1 nw c1) 33 i ss) (fun iv _ => nw + 1 - (intOf iv).toNat)
    case atStart => exact ⟨0, vsw, Nat.zero_le _, rfl, LpAt.start hvw1 hvw2 bw1 s1⟩
    case round =>
      obtain ⟨i, ss, hi, rfl, hLp⟩ := hrel
      obtain ⟨wl, rfl⟩ : ∃ wl : World, wl = wr := ⟨_, rfl⟩
      have oCl := hLp.g.obj (fun h => h.2 rfl) oC2
      have yC := obj_cell oCl 0
      by_cases hl : i < nw
      · have hlB : decide ((i : Int) < (nw : Int)) = true := decide_eq_true (by omega)
        have hlN : decide (i < nw) = true := decide_eq_true hl
        have hlI : (i : Int) < (nw : Int) := by omega
        have hi0 : (0 : Int) ≤ (i : Int) := by omega
        have wk1 : IntKind.i64.wrap ((i : Int) + 1) = (i : Int) + 1 := by rw [IntKind.wrap_i64]; omega
        obtain ⟨r, u, hr, hu, hyc⟩ := hLp.at_ hnw hl
        have hrow := hLp.row
        obtain ⟨g, cp, hsl, hgk, hglt⟩ := hrow.form (by omega)
        simp only [Value.slice.injEq, true_and] at hsl
        obtain ⟨rfl, rfl⟩ := hsl
        have yc : wl.cell? ⟨g, i * 5 + 4, none⟩ = some u := hyc g rfl
        have hsu : IsSecs wl u r.l := hLp.old_at hr hu
        obtain ⟨uo, uc, rfl⟩ := hsu.formL
        obtain ⟨un, hun⟩ : ∃ un, r.l.length = un := ⟨_, rfl⟩
        have cl := fun w' (q : B wl w') => lsec_any (.slice uo r.l.length uc) r.l w' (hsu.keepB q) (hw100 r (List.mem_of_getElem? hr))
        rw [hun] at cl yc hu
        have qd : B wl wl.drew := (B.refl wl).drew
        have hgC : ¬ g = C := fun e => by
          subst e
          exact farF2 oCl hrow (by decide) rfl
        have hgC' : ¬ C = g := fun e => hgC e.symm
        have hkl : k ≤ wl.heap.size := by have := obj_lt oCl; omega
        have HP := Lib.hid hLp
        have HN := Lib.hid (And.intro hun (And.intro hr hu))
        have HI := Lib.hid (And.intro hl hkl)
        clear hLp hyc hsu hun hr hu hrow hgk hglt hl hkl
        go_wp2_with fail
        refine wp_region_noPanic ?_
        refine wp_region_gate (S := fun w' => w'.cell? ⟨C, 0, none⟩ = some (.slice (some ⟨g, 0, none⟩) nw c1) ∧ w'.cell? ⟨g, i * 5 + 4, none⟩ = some (.slice uo un uc) ∧ B wl w') 12 [(0, 3), (1, 0), (2, 3), (3, 3), (4, 0), (5, 3), (6, 3), (7, 3), (8, 0), (9, 2), (10, 3), (11, 3), (12, 4)] [0, 1, 0, 0, 8, 0, 48, 64, 128, 256, 1023, 2047, 3071] [0, 1, 0, 0, 8, 0, 48, 64, 128, 256, 6, 1024, 2560] [0, 7170, 0, 0, 8144, 0, 0, 0, 7936, 0, 0, 0, 0] (by kernel_rfl) (by kernel_rfl) (fun _ _ _ _ _ h => h) ?_ (fun hH => ?_)
        · exact ⟨qd.keep yC, qd.keep yc, qd⟩
        refine wpSeqG_free (d := 22) (v := ?_) rfl rfl (by kernel_rfl) (fun w => ?_) ?_
        rotate_left
        · go_simp <;> with_reducible rfl
        dsimp only [List.set_cons_zero, List.set_cons_succ]
        refine wpSeqG_take (d := 23) (v := ?_) rfl rfl (by kernel_rfl) (fun w hS => ?_) ?_
        rotate_left
        · go_simp <;> with_reducible rfl
        dsimp only [List.set_cons_zero, List.set_cons_succ]
        refine wpSeqG_free (d := 24) (v := ?_) rfl rfl (by kernel_rfl) (fun w => ?_) ?_
        rotate_left
        · go_simp <;> with_reducible rfl
        dsimp only [List.set_cons_zero, List.set_cons_succ]
        refine wpSeqG_free (d := 25) (v := ?_) rfl rfl (by kernel_rfl) (fun w => ?_) ?_
        rotate_left
        · go_simp <;> with_reducible rfl
        dsimp only [List.set_cons_zero, List.set_cons_succ]
        refine wpSeqG_take (d := 26) (v := ?_) rfl rfl (by kernel_rfl) (fun w hS => ?_) ?_
        rotate_left
        · go_simp <;> with_reducible rfl
        dsimp only [List.set_cons_zero, List.set_cons_succ]
        refine wpSeqG_free (d := 27) (v := ?_) rfl rfl (by kernel_rfl) (fun w => ?_) ?_
        rotate_left
        · go_simp <;> with_reducible rfl
        dsimp only [List.set_cons_zero, List.set_cons_succ]
        refine wpSeqG_free (d := 28) (v := ?_) rfl rfl (by kernel_rfl) (fun w => ?_) ?_
        rotate_left
        · go_simp <;> with_reducible rfl
        dsimp only [List.set_cons_zero, List.set_cons_succ]
        refine wpSeqG_free (d := 29) (v := ?_) rfl rfl (by kernel_rfl) (fun w => ?_) ?_
        rotate_left
        · go_simp <;> with_reducible rfl
        dsimp only [List.set_cons_zero, List.set_cons_succ]
        refine wpSeqG_take (d := 30) (v := ?_) rfl rfl (by kernel_rfl) (fun w hS => ?_) ?_
        rotate_left
        · go_simp <;> with_reducible rfl
        dsimp only [List.set_cons_zero, List.set_cons_succ]
        refine wpSeqG_call rfl (by kernel_rfl) (fun K hK => ?_)
        go_simp
        (with_reducible refine (cl _ hH.2.2).mono ?_)
        rintro e w2 ⟨o9, c9, rfl, hown9, hq⟩
        refine hK.out _ _ ?_ (fun hH => ?_)
        · exact ⟨hq.keep hH.1, hq.keep hH.2.1, hH.2.2.trans hq⟩
        clear hK
        refine wpSeqG_free (d := 32) (v := ?_) rfl rfl (by kernel_rfl) (fun w => ?_) ?_
        rotate_left
        · go_simp <;> with_reducible rfl
        dsimp only [List.set_cons_zero, List.set_cons_succ]
        refine wpSeqG_free (d := 33) (v := ?_) rfl rfl (by kernel_rfl) (fun w => ?_) ?_
        rotate_left
        · go_simp <;> with_reducible rfl
        dsimp only [List.set_cons_zero, List.set_cons_succ]
        refine wpSeqG_gate rfl (by kernel_rfl) (fun K hK => ?_)
        have yy := hH.2.1
        have zz := (own_keepBx HP.out.row hH.2.2).frozenAt (i * 5 + 4)
        go_simp
        refine hK.out _ _ ?_
        clear hK
        refine wpSeqG_done ?_
        refine NoPanic.normal ?_
        all_goals
          obtain ⟨hun, hr, hu⟩ := HN.out
          have hG := HP.out.next hnw HI.out.2 hr hu HI.out.1 hH.2.2 hown9 hun (by decide) hgC (by rw [hD]; exact hwk)
          have HZ := Lib.hid (And.intro hG HI.out.1)
          clear hG HP HN HI hH hown9 hun hr hu
          generalize (w2.setCell ⟨g, i * 5 + 4, none⟩ (.slice o9 un c9)) = w9 at *
          go_wp2
          go_roundw
          case rel => exact ⟨i + 1, _, by have := HZ.out.2; omega, by go_num, HZ.out.1⟩
          case measure => have := HZ.out.2; simp [intOf]; omega
      · have hlB : decide ((i : Int) < (nw : Int)) = false := decide_eq_false (by omega)
        have hlN : decide (i < nw) = false := decide_eq_false hl
        obtain rfl : nw = i := by omega
        have oR3 := hLp.g.obj (fun h => by have := h.1; omega) oR2
        have HT := Lib.hid (And.intro hLp.row (And.intro hLp.len (And.intro (fun (j : Nat) (r : Rec) (u : Value) (h1 : d.ws[j]? = some r) (h2 : ss[j]? = some u) => hLp.new j r u (by have := (List.getElem?_eq_some_iff.1 h1).1; omega) h1 h2) (hLp.own (by decide) s3))))
        replace s2 : wl.ownsRow k 35 5 (.slice o2 nt c2) nt (flatR d.ts vst) := hLp.own (by decide) (by rw [hXT]; exact s2)
        have bw2 := hLp.bw
        have oC3 := oCl
        have yC1 := obj_cell oCl 1
        clear hLp s3 s1 bw1 oC2 oR2 oCl yC yC0 hvw1 hvw2
        obtain ⟨W2, rfl⟩ : ∃ W2 : World, W2 = wl := ⟨_, rfl⟩
        obtain ⟨ssw, rfl⟩ : ∃ s, s = ss := ⟨_, rfl⟩
        go_wp2_with fail
        clear hlB hlN hl hi
        go_loopw [38] (fun iv wr => ∃ (i : Nat) (ss : List Value), i ≤ nt ∧ iv = .int .i64 i ∧ LpAt d.ts w wr W2 k C nt (.slice o2 nt c2) 35 i ss) (fun iv _ => nt + 1 - (intOf iv).toNat)
        case atStart => exact ⟨0, vst, Nat.zero_le _, rfl, LpAt.start hvt1 hvt2 bw2 s2⟩
        case round =>
          obtain ⟨i, ss, hi, rfl, hLp⟩ := hrel
          obtain ⟨wl, rfl⟩ : ∃ wl : World, wl = wr := ⟨_, rfl⟩
          have oCl := hLp.g.obj (fun h => h.2 rfl) oC3
          have yC := obj_cell oCl 1
          by_cases hl : i < nt
          · have hlB : decide ((i : Int) < (nt : Int)) = true := decide_eq_true (by omega)
            have hlN : decide (i < nt) = true := decide_eq_true hl
            have hlI : (i : Int) < (nt : Int) := by omega
            have hi0 : (0 : Int) ≤ (i : Int) := by omega
            have wk1 : IntKind.i64.wrap ((i : Int) + 1) = (i : Int) + 1 := by rw [IntKind.wrap_i64]; omega
            obtain ⟨r, u, hr, hu, hyc⟩ := hLp.at_ hnt hl
            have hrow := hLp.row
            obtain ⟨g, cp, hsl, hgk, hglt⟩ := hrow.form (by omega)
            simp only [Value.slice.injEq, true_and] at hsl
            obtain ⟨rfl, rfl⟩ := hsl
            have yc : wl.cell? ⟨g, i * 5 + 4, none⟩ = some u := hyc g rfl
            have hsu : IsSecs wl u r.l := hLp.old_at hr hu
            obtain ⟨uo, uc, rfl⟩ := hsu.formL
            obtain ⟨un, hun⟩ : ∃ un, r.l.length = un := ⟨_, rfl⟩
            have cl := fun w' (q : B wl w') => lsec_any (.slice uo r.l.length uc) r.l w' (hsu.keepB q) (ht100 r (List.mem_of_getElem? hr))
            rw [hun] at cl yc hu
            have qd : B wl wl.drew := (B.refl wl).drew
            have hgC : ¬ g = C := fun e => by
              subst e
              exact farF2 oCl hrow (by decide) rfl
            have hgC' : ¬ C = g := fun e => hgC e.symm
            have hkl : k ≤ wl.heap.size := by have := obj_lt oCl; omega
            have HP := Lib.hid hLp
            have HN := Lib.hid (And.intro hun (And.intro hr hu))
            have HI := Lib.hid (And.intro hl hkl)
            clear hLp hyc hsu hun hr hu hrow hgk hglt hl hkl
            go_wp2_with fail
            refine wp_region_noPanic ?_
            refine wp_region_gate (S := fun w' => w'.cell? ⟨C, 1, none⟩ = some (.slice (some ⟨g, 0, none⟩) nt c2) ∧ w'.cell? ⟨g, i * 5 + 4, none⟩ = some (.slice uo un uc) ∧ B wl w') 12 [(0, 3), (1, 0), (2, 3), (3, 3), (4, 0), (5, 3), (6, 3), (7, 3), (8, 0), (9, 2), (10, 3), (11, 3), (12, 4)] [0, 1, 0, 0, 8, 0, 48, 64, 128, 256, 1023, 2047, 3071] [0, 1, 0, 0, 8, 0, 48, 64, 128, 256, 6, 1024, 2560] [0, 7170, 0, 0, 8144, 0, 0, 0, 7936, 0, 0, 0, 0] (by kernel_rfl) (by kernel_rfl) (fun _ _ _ _ _ h => h) ?_ (fun hH => ?_)
            · exact ⟨qd.keep yC, qd.keep yc, qd⟩
            refine wpSeqG_free (d := 41) (v := ?_) rfl rfl (by kernel_rfl) (fun w => ?_) ?_
            rotate_left
            · go_simp <;> with_reducible rfl
            dsimp only [List.set_cons_zero, List.set_cons_succ]
            refine wpSeqG_take (d := 42) (v := ?_) rfl rfl (by kernel_rfl) (fun w hS => ?_) ?_
            rotate_left
            · go_simp <;> with_reducible rfl
            dsimp only [List.set_cons_zero, List.set_cons_succ]
            refine wpSeqG_free (d := 43) (v := ?_) rfl rfl (by kernel_rfl) (fun w => ?_) ?_
            rotate_left
            · go_simp <;> with_reducible rfl
            dsimp only [List.set_cons_zero, List.set_cons_succ]
            refine wpSeqG_free (d := 44) (v := ?_) rfl rfl (by kernel_rfl) (fun w => ?_) ?_
            rotate_left
            · go_simp <;> with_reducible rfl
            dsimp only [List.set_cons_zero, List.set_cons_succ]
            refine wpSeqG_take (d := 45) (v := ?_) rfl rfl (by kernel_rfl) (fun w hS => ?_) ?_
            rotate_left
            · go_simp <;> with_reducible rfl
            dsimp only [List.set_cons_zero, List.set_cons_succ]
            refine wpSeqG_free (d := 46) (v := ?_) rfl rfl (by kernel_rfl) (fun w => ?_) ?_
            rotate_left
            · go_simp <;> with_reducible rfl
            dsimp only [List.set_cons_zero, List.set_cons_succ]
            refine wpSeqG_free (d := 47) (v := ?_) rfl rfl (by kernel_rfl) (fun w => ?_) ?_
            rotate_left
            · go_simp <;> with_reducible rfl
            dsimp only [List.set_cons_zero, List.set_cons_succ]
            refine wpSeqG_free (d := 48) (v := ?_) rfl rfl (by kernel_rfl) (fun w => ?_) ?_
            rotate_left
            · go_simp <;> with_reducible rfl
            dsimp only [List.set_cons_zero, List.set_cons_succ]
            refine wpSeqG_take (d := 49) (v := ?_) rfl rfl (by kernel_rfl) (fun w hS => ?_) ?_
            rotate_left
            · go_simp <;> with_reducible rfl
            dsimp only [List.set_cons_zero, List.set_cons_succ]
            refine wpSeqG_call rfl (by kernel_rfl) (fun K hK => ?_)
            go_simp
            (with_reducible refine (cl _ hH.2.2).mono ?_)
            rintro e w2 ⟨o9, c9, rfl, hown9, hq⟩
            refine hK.out _ _ ?_ (fun hH => ?_)
            · exact ⟨hq.keep hH.1, hq.keep hH.2.1, hH.2.2.trans hq⟩
            clear hK
            refine wpSeqG_free (d := 51) (v := ?_) rfl rfl (by kernel_rfl) (fun w => ?_) ?_
            rotate_left
            · go_simp <;> with_reducible rfl
            dsimp only [List.set_cons_zero, List.set_cons_succ]
            refine wpSeqG_free (d := 52) (v := ?_) rfl rfl (by kernel_rfl) (fun w => ?_) ?_
            rotate_left
            · go_simp <;> with_reducible rfl
            dsimp only [List.set_cons_zero, List.set_cons_succ]
            refine wpSeqG_gate rfl (by kernel_rfl) (fun K hK => ?_)
            have yy := hH.2.1
            have zz := (own_keepBx HP.out.row hH.2.2).frozenAt (i * 5 + 4)
            go_simp
            refine hK.out _ _ ?_
            clear hK
            refine wpSeqG_done ?_
            refine NoPanic.normal ?_
            all_goals
              obtain ⟨hun, hr, hu⟩ := HN.out
              have hG := HP.out.next hnt HI.out.2 hr hu HI.out.1 hH.2.2 hown9 hun (by decide) hgC (by rw [hD]; exact hwk)
              have HZ := Lib.hid (And.intro hG HI.out.1)
              clear hG HP HN HI hH hown9 hun hr hu
              generalize (w2.setCell ⟨g, i * 5 + 4, none⟩ (.slice o9 un c9)) = w9 at *
              go_wp2
              go_roundw
              case rel => exact ⟨i + 1, _, by have := HZ.out.2; omega, by go_num, HZ.out.1⟩
              case measure => have := HZ.out.2; simp [intOf]; omega
          · have hlB : decide ((i : Int) < (nt : Int)) = false := decide_eq_false (by omega)
            have hlN : decide (i < nt) = false := decide_eq_false hl
            obtain rfl : nt = i := by omega
            have oR4 := hLp.g.obj (fun h => by have := h.1; omega) oR3
            obtain ⟨t1, tl1, tn, t3⟩ := HT.out
            have hCR : ¬ C = R := by omega
            have hRC : ¬ R = C := by omega
            have gR := g_three wl R (.slice o1 nw c1) (.slice o2 nt c2) (.slice o3 nf c3)
            have oE := obj_three oR4 (.slice o1 nw c1) (.slice o2 nt c2) (.slice o3 nf c3)
            have hOwn : OwnD (((wl.setCell ⟨R, 0, none⟩ (.slice o1 nw c1)).setCell ⟨R, 1, none⟩ (.slice o2 nt c2)).setCell ⟨R, 2, none⟩ (.slice o3 nf c3)) k (.slice o1 nw c1) (.slice o2 nt c2) (.slice o3 nf c3) d ssw ss :=
              ⟨by rw [hnw]; exact own_objG (hLp.own (by decide) t1) oR4 (by decide) gR, by rw [hnt]; exact own_objG hLp.row oR4 (by decide) gR, by rw [hnf, hXF]; exact own_objG (hLp.own (by decide) t3) oR4 (by decide) gR, tl1, hLp.len,
                fun i r v h1 h2 => own_objG (hLp.own (by decide) (tn i r v h1 h2)) oR4 (by decide) gR, fun i r v h1 h2 => own_objG (hLp.new i r v (by have := (List.getElem?_eq_some_iff.1 h1).1; omega) h1 h2) oR4 (by decide) gR, hwi, hti⟩
            have hqF := b_three (b := R) hLp.bw (by rw [hD]; omega) (.slice o1 nw c1) (.slice o2 nt c2) (.slice o3 nf c3)
            have HZ := Lib.hid (And.intro oE (And.intro hqF hOwn))
            have HM := Lib.hid (And.intro hnw (And.intro hnt hnf))
            have y0 := obj_cell oCl 0
            have y1 := obj_cell oCl 1
            have y2 := obj_cell oCl 2
            have e0 := obj_free oR4 0
            have e1 := obj_free oR4 1
            have e2 := obj_free oR4 2
            have r0 := obj_cell oR4 0
            have r1 := obj_cell oR4 1
            have r2 := obj_cell oR4 2
            clear oE hqF hOwn hLp HT t1 tl1 tn t3 gR oR4 oCl oC3 oR3 hwi hti hvt1 hvt2 hnt hnf hXT hXF s2 hnw
            go_wp2
            obtain ⟨oE, hqF, hOwn⟩ := HZ.out
            have c0' := obj_cell oE 0
            have c1' := obj_cell oE 1
            have c2' := obj_cell oE 2
            refine bodyPost_ret (v := .agg #[.slice o1 nw c1, .slice o2 nt c2, .slice o3 nf c3]) (by simp [results, Tryz.results80, go_sem, c0', c1', c2']) rfl ⟨o1, c1, o2, c2, o3, c3, ssw, ss, by rw [HM.out.1, HM.out.2.1, HM.out.2.2], ?_, hqF⟩
            rw [HM.out.1, HM.out.2.1, HM.out.2.2]
            have hwk' : w.heap.size ≤ k := by rw [hD]; exact hwk
            exact ⟨own_low hOwn.ws hwk', own_low hOwn.ts hwk', own_low hOwn.fs hwk', hOwn.sl, hOwn.tl, fun i r v h1 h2 => own_low (hOwn.sh i r v h1 h2) hwk', fun i r v h1 h2 => own_low (hOwn.th i r v h1 h2) hwk', hOwn.wi, hOwn.ti⟩
end Go.Proofs.YtjdkhobkdlldnaaGreatDoor

namespace Go.Proofs.YtjdkhobkdlldnaaGreatDoor
open Go.RowKit Go.Maps Go.WideMaps
set_option linter.unusedVariables false
theorem laid9 : laidOutB Tryz.prog = true := by kernel_rfl
theorem wideWell : (match Tryz.prog.underlying 39 with | some (.array _ _) | some (.struct _) => true | _ => false) = true := by rw [Tryz.underlying39]
set_option maxRecDepth 100000 in
theorem wellKeyed : Keyed Tryz.prog 39 := Keyed.of_law (deep_law_laid laid9 (m := 3) (by omega) (of_decide_eq_true (by kernel_rfl)) (by kernel_rfl) wideWell)
def wkey (n : ByteArray) (r c : Int) : Lit := .string (keyBytes [.string n.data.toList, .int .i64 r, .int .i64 c])
theorem wf_i64 {r : Int} (h : I64 r) : (Lit.int .i64 r).wf = true := by
  unfold I64 at h
  simp [Lit.wf, IntKind.min, IntKind.max, IntKind.signed, IntKind.bits]
  omega
theorem keyT : Tryz.prog.keyType 39 = true := by kernel_rfl
theorem cells3 : Tryz.prog.cellsOf 39 = 3 := by kernel_rfl
theorem cellsS : Tryz.prog.cellsOf 9 = 1 := by kernel_rfl
theorem cellsI1 : Tryz.prog.cellsOf 3 = 1 := by kernel_rfl
theorem key_well (n : ByteArray) (r c : Int) (hn : n.size ≤ maxLen) (hr : I64 r) (hc : I64 c) : keyOf Tryz.prog 39 (.agg #[.string n, .int .i64 r, .int .i64 c]) = some (wkey n r c) := by
  have wr := wf_i64 hr
  have wc := wf_i64 hc
  have e : Tryz.prog.keyLits (Tryz.prog.types.size + 1) 39 [.string n, .int .i64 r, .int .i64 c] = some [.string n.data.toList, .int .i64 r, .int .i64 c] := by
    obtain ⟨m, hm⟩ : ∃ m, Tryz.prog.types.size = m + 1 := ⟨Tryz.prog.types.size - 1, by have : 0 < Tryz.prog.types.size := of_decide_eq_true (by kernel_rfl); omega⟩
    rw [hm]
    simp [Program.keyLits, Tryz.underlying39, Tryz.underlying9, Tryz.underlying3, cells3, cellsS, cellsI1, hn, wr, wc]
  unfold keyOf
  rw [Tryz.underlying39]
  simp only [keyT]
  simp [Value.formed, Tryz.underlying39, cells3, Value.cells, wkey]
  exact ⟨_, by simpa using e, rfl⟩
theorem wkey_inj {n n' : ByteArray} {r c r' c' : Int} (hn : n.size ≤ maxLen) (hr : I64 r) (hc : I64 c) (hn' : n'.size ≤ maxLen) (hr' : I64 r') (hc' : I64 c') (h : wkey n r c = wkey n' r' c') : n = n' ∧ r = r' ∧ c = c' := by
  have := wellKeyed.inj (key_well n r c hn hr hc) (h ▸ key_well n' r' c' hn' hr' hc')
  simpa using this
end Go.Proofs.YtjdkhobkdlldnaaGreatDoor
