/-
  Contract of the document's stepRight; Contract of the document's StepsRight; Contract of the document's text of wells; Contract of the document's names of steps.
-/
import Derived.Test.YtnmcgleanpdlmaaDoorY1
import Derived.Test.YtnmcgleanpdlmaaDoorY2
import Derived.Test.YtnmcgleanpdlmaaDoorY3
import Derived.Test.YtnmcgleanpdlmaaDoorY4
namespace Go.Proofs.YtnmcgleanpdlmaaDoor
open Go.RowKit
set_option linter.unusedVariables false
set_option maxRecDepth 100000 in
set_option maxHeartbeats 4000000 in
theorem r8stepright_any (k : Int) (n : ByteArray) (L : List Wp) (v m : Int) (wsv : Value) (w : World) (h : IsWps w wsv L) : Calls Tryd.prog 27 #[.agg #[.int .i64 k, .string n, wsv, .int .i64 v, .int .i64 m]] w fun e w' => e = .returned (.bool (stepOk ⟨k, n, L, v, m⟩)) ∧ Q w w' := by
  obtain ⟨ao, ac, rfl⟩ := h.form
  have hQ := (Q.refl w).alloc #[.int .i64 k, .string n, .slice ao L.length ac, .int .i64 v, .int .i64 m] 27
  have oB := obj_new w (.cells #[.int .i64 k, .string n, .slice ao L.length ac, .int .i64 v, .int .i64 m] 27)
  obtain ⟨W, hW⟩ : ∃ W, w.alloc (.cells #[.int .i64 k, .string n, .slice ao L.length ac, .int .i64 v, .int .i64 m] 27) = W := ⟨_, rfl⟩
  rw [hW] at hQ oB
  replace h := h.keepB hQ.b
  have hlen := h.len
  have cN := fun w => r8name_any n w
  have cV := fun w => r8in_any v 1 20000000 w
  have cM := fun w => r8in_any m 1 20 w
  go_enter Tryd.func27, Tryd.ntmps27
  go_wp2_with fail
  try rw [hW]
  clear hW
  generalize w.heap.size = H at *
  go_loopw [3] (fun iv wr => ∃ i : Nat, i ≤ L.length ∧ iv = .int .i64 i ∧ wellsOk (L.take i) = true ∧ Q W wr) (fun iv _ => L.length + 1 - (intOf iv).toNat)
  case atStart => exact ⟨0, Nat.zero_le _, rfl, rfl, Q.refl _⟩
  case round =>
    obtain ⟨i, hi, rfl, hok, hQi⟩ := hrel
    obtain ⟨wo, rfl⟩ : ∃ wo : World, wo = wr := ⟨_, rfl⟩
    have oB1 := hQi.b.obj oB
    have b0 : wo.cell? ⟨H, 0, none⟩ = some (.int .i64 k) := obj_cell oB1 0
    have b1 : wo.cell? ⟨H, 1, none⟩ = some (.string n) := obj_cell oB1 1
    have b2 : wo.cell? ⟨H, 2, none⟩ = some (.slice ao L.length ac) := obj_cell oB1 2
    have b3 : wo.cell? ⟨H, 3, none⟩ = some (.int .i64 v) := obj_cell oB1 3
    have b4 : wo.cell? ⟨H, 4, none⟩ = some (.int .i64 m) := obj_cell oB1 4
    by_cases hl : i < L.length
    · have hlB : decide ((i : Int) < (L.length : Int)) = true := decide_eq_true (by omega)
      have hlN : decide (i < L.length) = true := decide_eq_true hl
      have hlI : (i : Int) < (L.length : Int) := by omega
      have hi0 : (0 : Int) ≤ (i : Int) := by omega
      have wk1 : IntKind.i64.wrap ((i : Int) + 1) = (i : Int) + 1 := by rw [IntKind.wrap_i64]; omega
      obtain ⟨a, cap, e1, _, _, hr⟩ := (h.keepB hQi.b).at_ hl
      obtain ⟨rfl, _, rfl⟩ : ao = some a ∧ True ∧ ac = cap := by simpa using e1
      obtain ⟨F, hF⟩ : ∃ F, L[i]? = some F := ⟨_, List.getElem?_eq_getElem hl⟩
      have hFe : L[i] = F := by rw [List.getElem?_eq_getElem hl] at hF; simpa using hF
      rw [hFe] at hr
      obtain ⟨N, R, C⟩ := F
      obtain ⟨g0, g1, g2⟩ := hr
      simp only at g0 g1 g2
      have cT := r8wtext_any N R C wo
      have hup : wellsOk (L.take (i + 1)) = !(wellT N R C).isEmpty := by
        unfold wellsOk at hok ⊢
        rw [List.take_add_one, hF, List.all_append, hok]
        simp [Wp.t]
      have hbad : (wellT N R C).isEmpty = true → wellsOk L = false := fun he => by
        unfold wellsOk
        rw [List.all_eq_false]
        exact ⟨_, List.mem_of_getElem? hF, by simp [Wp.t] at he ⊢; exact he⟩
      have hte : ((strB (wellT N R C)).toList == []) = (wellT N R C).isEmpty := by
        rw [toList_data]
        show (wellT N R C == []) = _
        cases wellT N R C <;> rfl
      generalize strB (wellT N R C) = WT at *
      generalize (wellT N R C).isEmpty = EM at *
      have HL := Lib.hid hl
      have HQ := Lib.hid (hQ.trans hQi)
      have HQ2 := Lib.hid hQi
      clear hF hFe e1 hl hQi hQ h hok oB1
      cases EM
      · have HU := Lib.hid hup
        clear hup hbad
        go_wp2_with fail
        refine cT.mono ?_
        rintro _ w5 ⟨rfl, q5⟩
        have HQ5 := Lib.hid (HQ2.out.trans q5)
        clear cT g0 g1 g2 q5
        go_wp2
        go_roundw
        case rel => exact ⟨i + 1, by have := HL.out; omega, by go_num, HU.out, HQ5.out⟩
        case measure => have := HL.out; simp [intOf]; omega
      · have HR : Hid (stepOk ⟨k, n, L, v, m⟩ = false) := Lib.hid (by unfold stepOk; simp only [hbad rfl, Bool.false_and])
        clear hup hbad
        go_wp2_with fail
        refine cT.mono ?_
        rintro _ w5 ⟨rfl, q5⟩
        have HQ5 := Lib.hid (HQ.out.trans q5)
        clear cT g0 g1 g2 q5
        go_wp2
        go_ret
        exact ⟨by rw [HR.out]; rfl, HQ5.out⟩
    · have hlB : decide ((i : Int) < (L.length : Int)) = false := decide_eq_false (by omega)
      have hlN : decide (i < L.length) = false := decide_eq_false hl
      rw [List.take_of_length_le (by omega)] at hok
      have hWk : wellsOk L = true := hok
      clear hok hl hi h oB1 oB hlen
      by_cases k0 : k = 0
      · subst k0
        cases hnm : nameS n
        · rw [hnm] at cN
          have HR : Hid (stepOk ⟨0, n, L, v, m⟩ = false) := Lib.hid (by have e := stepK_0 n L v m; unfold stepOk; simp only [hWk, Bool.true_and]; refine e.trans ?_; rw [hnm]; rfl)
          have HQ := Lib.hid (hQ.trans hQi)
          clear hQ hQi hWk cV cM
          go_wp2_with (go_at_call 45; with_reducible refine (cN _).mono ?_; rintro _ _ ⟨rfl, rfl⟩)
          go_ret
          exact ⟨by rw [HR.out]; rfl, HQ.out⟩
        · rw [hnm] at cN
          cases hl0 : decide (L.length = 0)
          · have l0I : ((L.length : Int) == 0) = false := by have := of_decide_eq_false hl0; rw [beq_eq_false_iff_ne]; omega
            have l0N : (L.length == 0) = false := by have := of_decide_eq_false hl0; rw [beq_eq_false_iff_ne]; omega
            have HR : Hid (stepOk ⟨0, n, L, v, m⟩ = false) := Lib.hid (by have e := stepK_0 n L v m; unfold stepOk; simp only [hWk, Bool.true_and]; refine e.trans ?_; rw [hnm, hl0]; rfl)
            have HQ := Lib.hid (hQ.trans hQi)
            clear hQ hQi hWk cV cM
            go_wp2_with (go_at_call 45; with_reducible refine (cN _).mono ?_; rintro _ _ ⟨rfl, rfl⟩)
            go_ret
            exact ⟨by rw [HR.out]; rfl, HQ.out⟩
          · have l0I : ((L.length : Int) == 0) = true := by have := of_decide_eq_true hl0; first | (rw [beq_iff_eq]; omega) | (simp; omega)
            have l0N : (L.length == 0) = true := by have := of_decide_eq_true hl0; first | (rw [beq_iff_eq]; omega) | (simp; omega)
            cases hv0 : decide (v = 0)
            · have v0I : (v == 0) = false := by have := of_decide_eq_false hv0; rw [beq_eq_false_iff_ne]; omega
              have HR : Hid (stepOk ⟨0, n, L, v, m⟩ = false) := Lib.hid (by have e := stepK_0 n L v m; unfold stepOk; simp only [hWk, Bool.true_and]; refine e.trans ?_; rw [hnm, hl0, hv0]; rfl)
              have HQ := Lib.hid (hQ.trans hQi)
              clear hQ hQi hWk cV cM
              go_wp2_with (go_at_call 45; with_reducible refine (cN _).mono ?_; rintro _ _ ⟨rfl, rfl⟩)
              go_ret
              exact ⟨by rw [HR.out]; rfl, HQ.out⟩
            · have v0I : (v == 0) = true := by have := of_decide_eq_true hv0; first | (rw [beq_iff_eq]; omega) | (simp; omega)
              cases hm0 : decide (m = 0)
              · have m0I : (m == 0) = false := by have := of_decide_eq_false hm0; rw [beq_eq_false_iff_ne]; omega
                have HR : Hid (stepOk ⟨0, n, L, v, m⟩ = false) := Lib.hid (by have e := stepK_0 n L v m; unfold stepOk; simp only [hWk, Bool.true_and]; refine e.trans ?_; rw [hnm, hl0, hv0, hm0]; rfl)
                have HQ := Lib.hid (hQ.trans hQi)
                clear hQ hQi hWk cV cM
                go_wp2_with (go_at_call 45; with_reducible refine (cN _).mono ?_; rintro _ _ ⟨rfl, rfl⟩)
                go_ret
                exact ⟨by rw [HR.out]; rfl, HQ.out⟩
              · have m0I : (m == 0) = true := by have := of_decide_eq_true hm0; first | (rw [beq_iff_eq]; omega) | (simp; omega)
                have HR : Hid (stepOk ⟨0, n, L, v, m⟩ = true) := Lib.hid (by have e := stepK_0 n L v m; unfold stepOk; simp only [hWk, Bool.true_and]; refine e.trans ?_; rw [hnm, hl0, hv0, hm0]; rfl)
                have HQ := Lib.hid (hQ.trans hQi)
                clear hQ hQi hWk cV cM
                go_wp2_with (go_at_call 45; with_reducible refine (cN _).mono ?_; rintro _ _ ⟨rfl, rfl⟩)
                go_ret
                exact ⟨by rw [HR.out]; rfl, HQ.out⟩
      by_cases k1 : k = 1
      · subst k1
        cases hem : (n.toList == [])
        · have HR : Hid (stepOk ⟨1, n, L, v, m⟩ = false) := Lib.hid (by have e := stepK_1 n L v m; unfold stepOk; simp only [hWk, Bool.true_and]; refine e.trans ?_; rw [hem]; rfl)
          have HQ := Lib.hid (hQ.trans hQi)
          clear hQ hQi hWk cN cV cM
          go_wp2_with fail
          go_ret
          exact ⟨by rw [HR.out]; rfl, HQ.out⟩
        · cases hl0 : decide (L.length = 0)
          · have l0I : ((L.length : Int) == 0) = false := by have := of_decide_eq_false hl0; rw [beq_eq_false_iff_ne]; omega
            have l0N : (L.length == 0) = false := by have := of_decide_eq_false hl0; rw [beq_eq_false_iff_ne]; omega
            have HR : Hid (stepOk ⟨1, n, L, v, m⟩ = false) := Lib.hid (by have e := stepK_1 n L v m; unfold stepOk; simp only [hWk, Bool.true_and]; refine e.trans ?_; rw [hem, hl0]; rfl)
            have HQ := Lib.hid (hQ.trans hQi)
            clear hQ hQi hWk cN cV cM
            go_wp2_with fail
            go_ret
            exact ⟨by rw [HR.out]; rfl, HQ.out⟩
          · have l0I : ((L.length : Int) == 0) = true := by have := of_decide_eq_true hl0; first | (rw [beq_iff_eq]; omega) | (simp; omega)
            have l0N : (L.length == 0) = true := by have := of_decide_eq_true hl0; first | (rw [beq_iff_eq]; omega) | (simp; omega)
            cases hv0 : decide (v = 0)
            · have v0I : (v == 0) = false := by have := of_decide_eq_false hv0; rw [beq_eq_false_iff_ne]; omega
              have HR : Hid (stepOk ⟨1, n, L, v, m⟩ = false) := Lib.hid (by have e := stepK_1 n L v m; unfold stepOk; simp only [hWk, Bool.true_and]; refine e.trans ?_; rw [hem, hl0, hv0]; rfl)
              have HQ := Lib.hid (hQ.trans hQi)
              clear hQ hQi hWk cN cV cM
              go_wp2_with fail
              go_ret
              exact ⟨by rw [HR.out]; rfl, HQ.out⟩
            · have v0I : (v == 0) = true := by have := of_decide_eq_true hv0; first | (rw [beq_iff_eq]; omega) | (simp; omega)
              by_cases h0 : m = 0
              · subst h0
                have HR : Hid (stepOk ⟨1, n, L, v, 0⟩ = true) := Lib.hid (by have e := stepK_1 n L v (0 : Int); unfold stepOk; simp only [hWk, Bool.true_and]; refine e.trans ?_; rw [hem, hl0, hv0]; rfl)
                have HQ := Lib.hid (hQ.trans hQi)
                clear hQ hQi hWk cN cV cM
                go_wp2_with fail
                go_ret
                exact ⟨by rw [HR.out]; rfl, HQ.out⟩
              · have m0I : (m == 0) = false := by rw [beq_eq_false_iff_ne]; exact h0
                by_cases h1 : m = 1
                · subst h1
                  have HR : Hid (stepOk ⟨1, n, L, v, 1⟩ = true) := Lib.hid (by have e := stepK_1 n L v (1 : Int); unfold stepOk; simp only [hWk, Bool.true_and]; refine e.trans ?_; rw [hem, hl0, hv0]; rfl)
                  have HQ := Lib.hid (hQ.trans hQi)
                  clear hQ hQi hWk cN cV cM
                  go_wp2_with fail
                  go_ret
                  exact ⟨by rw [HR.out]; rfl, HQ.out⟩
                · have m1I : (m == 1) = false := by rw [beq_eq_false_iff_ne]; exact h1
                  have d0 : decide (m = 0) = false := decide_eq_false h0
                  have d1 : decide (m = 1) = false := decide_eq_false h1
                  have HR : Hid (stepOk ⟨1, n, L, v, m⟩ = false) := Lib.hid (by have e := stepK_1 n L v m; unfold stepOk; simp only [hWk, Bool.true_and]; refine e.trans ?_; rw [hem, hl0, hv0, d0, d1]; rfl)
                  have HQ := Lib.hid (hQ.trans hQi)
                  clear hQ hQi hWk cN cV cM
                  go_wp2_with fail
                  go_ret
                  exact ⟨by rw [HR.out]; rfl, HQ.out⟩
      by_cases k5 : k = 5
      · subst k5
        cases hem : (n.toList == [])
        · have HR : Hid (stepOk ⟨5, n, L, v, m⟩ = false) := Lib.hid (by have e := stepK_5 n L v m; unfold stepOk; simp only [hWk, Bool.true_and]; refine e.trans ?_; rw [hem]; rfl)
          have HQ := Lib.hid (hQ.trans hQi)
          clear hQ hQi hWk cN
          go_wp2_with (go_at_call 46; first | (with_reducible refine (cV _).mono ?_; rintro _ _ ⟨rfl, rfl⟩) | (with_reducible refine (cM _).mono ?_; rintro _ _ ⟨rfl, rfl⟩))
          go_ret
          exact ⟨by rw [HR.out]; rfl, HQ.out⟩
        · cases hl1 : decide (L.length = 1)
          · have l1I : ((L.length : Int) == 1) = false := by have := of_decide_eq_false hl1; rw [beq_eq_false_iff_ne]; omega
            have l1N : (L.length == 1) = false := by have := of_decide_eq_false hl1; rw [beq_eq_false_iff_ne]; omega
            have HR : Hid (stepOk ⟨5, n, L, v, m⟩ = false) := Lib.hid (by have e := stepK_5 n L v m; unfold stepOk; simp only [hWk, Bool.true_and]; refine e.trans ?_; rw [hem, hl1]; rfl)
            have HQ := Lib.hid (hQ.trans hQi)
            clear hQ hQi hWk cN
            go_wp2_with (go_at_call 46; first | (with_reducible refine (cV _).mono ?_; rintro _ _ ⟨rfl, rfl⟩) | (with_reducible refine (cM _).mono ?_; rintro _ _ ⟨rfl, rfl⟩))
            go_ret
            exact ⟨by rw [HR.out]; rfl, HQ.out⟩
          · have l1I : ((L.length : Int) == 1) = true := by have := of_decide_eq_true hl1; first | (rw [beq_iff_eq]; omega) | (simp; omega)
            have l1N : (L.length == 1) = true := by have := of_decide_eq_true hl1; first | (rw [beq_iff_eq]; omega) | (simp; omega)
            cases hiv : inB v 1 20000000
            · rw [hiv] at cV
              have HR : Hid (stepOk ⟨5, n, L, v, m⟩ = false) := Lib.hid (by have e := stepK_5 n L v m; unfold stepOk; simp only [hWk, Bool.true_and]; refine e.trans ?_; rw [hem, hl1, hiv]; rfl)
              have HQ := Lib.hid (hQ.trans hQi)
              clear hQ hQi hWk cN
              go_wp2_with (go_at_call 46; first | (with_reducible refine (cV _).mono ?_; rintro _ _ ⟨rfl, rfl⟩) | (with_reducible refine (cM _).mono ?_; rintro _ _ ⟨rfl, rfl⟩))
              go_ret
              exact ⟨by rw [HR.out]; rfl, HQ.out⟩
            · rw [hiv] at cV
              cases him : inB m 1 20
              · rw [him] at cM
                have HR : Hid (stepOk ⟨5, n, L, v, m⟩ = false) := Lib.hid (by have e := stepK_5 n L v m; unfold stepOk; simp only [hWk, Bool.true_and]; refine e.trans ?_; rw [hem, hl1, hiv, him]; rfl)
                have HQ := Lib.hid (hQ.trans hQi)
                clear hQ hQi hWk cN
                go_wp2_with (go_at_call 46; first | (with_reducible refine (cV _).mono ?_; rintro _ _ ⟨rfl, rfl⟩) | (with_reducible refine (cM _).mono ?_; rintro _ _ ⟨rfl, rfl⟩))
                go_ret
                exact ⟨by rw [HR.out]; rfl, HQ.out⟩
              · rw [him] at cM
                have HR : Hid (stepOk ⟨5, n, L, v, m⟩ = true) := Lib.hid (by have e := stepK_5 n L v m; unfold stepOk; simp only [hWk, Bool.true_and]; refine e.trans ?_; rw [hem, hl1, hiv, him]; rfl)
                have HQ := Lib.hid (hQ.trans hQi)
                clear hQ hQi hWk cN
                go_wp2_with (go_at_call 46; first | (with_reducible refine (cV _).mono ?_; rintro _ _ ⟨rfl, rfl⟩) | (with_reducible refine (cM _).mono ?_; rintro _ _ ⟨rfl, rfl⟩))
                go_ret
                exact ⟨by rw [HR.out]; rfl, HQ.out⟩
      by_cases k2 : k = 2
      · subst k2
        cases hem : (n.toList == [])
        · have HR : Hid (stepOk ⟨2, n, L, v, m⟩ = false) := Lib.hid (by have e := stepK_2 n L v m; unfold stepOk; simp only [hWk, Bool.true_and]; refine e.trans ?_; rw [hem]; rfl)
          have HQ := Lib.hid (hQ.trans hQi)
          clear hQ hQi hWk cN cM
          go_wp2_with (go_at_call 46; with_reducible refine (cV _).mono ?_; rintro _ _ ⟨rfl, rfl⟩)
          go_ret
          exact ⟨by rw [HR.out]; rfl, HQ.out⟩
        · cases hm0 : decide (m = 0)
          · have m0I : (m == 0) = false := by have := of_decide_eq_false hm0; rw [beq_eq_false_iff_ne]; omega
            have HR : Hid (stepOk ⟨2, n, L, v, m⟩ = false) := Lib.hid (by have e := stepK_2 n L v m; unfold stepOk; simp only [hWk, Bool.true_and]; refine e.trans ?_; rw [hem, hm0]; rfl)
            have HQ := Lib.hid (hQ.trans hQi)
            clear hQ hQi hWk cN cM
            go_wp2_with (go_at_call 46; with_reducible refine (cV _).mono ?_; rintro _ _ ⟨rfl, rfl⟩)
            go_ret
            exact ⟨by rw [HR.out]; rfl, HQ.out⟩
          · have m0I : (m == 0) = true := by have := of_decide_eq_true hm0; first | (rw [beq_iff_eq]; omega) | (simp; omega)
            cases hiv : inB v 1 20000000
            · rw [hiv] at cV
              have HR : Hid (stepOk ⟨2, n, L, v, m⟩ = false) := Lib.hid (by have e := stepK_2 n L v m; unfold stepOk; simp only [hWk, Bool.true_and]; refine e.trans ?_; rw [hem, hm0, hiv]; rfl)
              have HQ := Lib.hid (hQ.trans hQi)
              clear hQ hQi hWk cN cM
              go_wp2_with (go_at_call 46; with_reducible refine (cV _).mono ?_; rintro _ _ ⟨rfl, rfl⟩)
              go_ret
              exact ⟨by rw [HR.out]; rfl, HQ.out⟩
            · rw [hiv] at cV
              cases hg2 : decide (2 ≤ L.length)
              · have g2I : decide ((2 : Int) ≤ (L.length : Int)) = false := by have := of_decide_eq_false hg2; exact decide_eq_false (by omega)
                have g2N : decide (2 ≤ L.length) = false := hg2
                have HR : Hid (stepOk ⟨2, n, L, v, m⟩ = false) := Lib.hid (by have e := stepK_2 n L v m; unfold stepOk; simp only [hWk, Bool.true_and]; refine e.trans ?_; rw [hem, hm0, hiv, hg2]; rfl)
                have HQ := Lib.hid (hQ.trans hQi)
                clear hQ hQi hWk cN cM
                go_wp2_with (go_at_call 46; with_reducible refine (cV _).mono ?_; rintro _ _ ⟨rfl, rfl⟩)
                go_ret
                exact ⟨by rw [HR.out]; rfl, HQ.out⟩
              · have g2I : decide ((2 : Int) ≤ (L.length : Int)) = true := by have := of_decide_eq_true hg2; exact decide_eq_true (by omega)
                have g2N : decide (2 ≤ L.length) = true := hg2
                cases hl96 : decide (L.length ≤ 96)
                · have l96I : decide ((L.length : Int) ≤ 96) = false := by have := of_decide_eq_false hl96; exact decide_eq_false (by omega)
                  have l96N : decide (L.length ≤ 96) = false := hl96
                  have HR : Hid (stepOk ⟨2, n, L, v, m⟩ = false) := Lib.hid (by have e := stepK_2 n L v m; unfold stepOk; simp only [hWk, Bool.true_and]; refine e.trans ?_; rw [hem, hm0, hiv, hg2, hl96]; rfl)
                  have HQ := Lib.hid (hQ.trans hQi)
                  clear hQ hQi hWk cN cM
                  go_wp2_with (go_at_call 46; with_reducible refine (cV _).mono ?_; rintro _ _ ⟨rfl, rfl⟩)
                  go_ret
                  exact ⟨by rw [HR.out]; rfl, HQ.out⟩
                · have l96I : decide ((L.length : Int) ≤ 96) = true := by have := of_decide_eq_true hl96; exact decide_eq_true (by omega)
                  have l96N : decide (L.length ≤ 96) = true := hl96
                  cases hq2 : decide (L.length = 2)
                  · have q2I : ((L.length : Int) == 2) = false := by have := of_decide_eq_false hq2; rw [beq_eq_false_iff_ne]; omega
                    have q2N : (L.length == 2) = false := by have := of_decide_eq_false hq2; rw [beq_eq_false_iff_ne]; omega
                    have HR : Hid (stepOk ⟨2, n, L, v, m⟩ = false) := Lib.hid (by have e := stepK_2 n L v m; unfold stepOk; simp only [hWk, Bool.true_and]; refine e.trans ?_; rw [hem, hm0, hiv, hg2, hl96, hq2]; rfl)
                    have HQ := Lib.hid (hQ.trans hQi)
                    clear hQ hQi hWk cN cM
                    go_wp2_with (go_at_call 46; with_reducible refine (cV _).mono ?_; rintro _ _ ⟨rfl, rfl⟩)
                    go_ret
                    exact ⟨by rw [HR.out]; rfl, HQ.out⟩
                  · have q2I : ((L.length : Int) == 2) = true := by have := of_decide_eq_true hq2; first | (rw [beq_iff_eq]; omega) | (simp; omega)
                    have q2N : (L.length == 2) = true := by have := of_decide_eq_true hq2; first | (rw [beq_iff_eq]; omega) | (simp; omega)
                    have HR : Hid (stepOk ⟨2, n, L, v, m⟩ = true) := Lib.hid (by have e := stepK_2 n L v m; unfold stepOk; simp only [hWk, Bool.true_and]; refine e.trans ?_; rw [hem, hm0, hiv, hg2, hl96, hq2]; rfl)
                    have HQ := Lib.hid (hQ.trans hQi)
                    clear hQ hQi hWk cN cM
                    go_wp2_with (go_at_call 46; with_reducible refine (cV _).mono ?_; rintro _ _ ⟨rfl, rfl⟩)
                    go_ret
                    exact ⟨by rw [HR.out]; rfl, HQ.out⟩
      by_cases k3 : k = 3
      · subst k3
        cases hem : (n.toList == [])
        · have HR : Hid (stepOk ⟨3, n, L, v, m⟩ = false) := Lib.hid (by have e := stepK_3 n L v m; unfold stepOk; simp only [hWk, Bool.true_and]; refine e.trans ?_; rw [hem]; rfl)
          have HQ := Lib.hid (hQ.trans hQi)
          clear hQ hQi hWk cN cM
          go_wp2_with (go_at_call 46; with_reducible refine (cV _).mono ?_; rintro _ _ ⟨rfl, rfl⟩)
          go_ret
          exact ⟨by rw [HR.out]; rfl, HQ.out⟩
        · cases hm0 : decide (m = 0)
          · have m0I : (m == 0) = false := by have := of_decide_eq_false hm0; rw [beq_eq_false_iff_ne]; omega
            have HR : Hid (stepOk ⟨3, n, L, v, m⟩ = false) := Lib.hid (by have e := stepK_3 n L v m; unfold stepOk; simp only [hWk, Bool.true_and]; refine e.trans ?_; rw [hem, hm0]; rfl)
            have HQ := Lib.hid (hQ.trans hQi)
            clear hQ hQi hWk cN cM
            go_wp2_with (go_at_call 46; with_reducible refine (cV _).mono ?_; rintro _ _ ⟨rfl, rfl⟩)
            go_ret
            exact ⟨by rw [HR.out]; rfl, HQ.out⟩
          · have m0I : (m == 0) = true := by have := of_decide_eq_true hm0; first | (rw [beq_iff_eq]; omega) | (simp; omega)
            cases hiv : inB v 1 20000000
            · rw [hiv] at cV
              have HR : Hid (stepOk ⟨3, n, L, v, m⟩ = false) := Lib.hid (by have e := stepK_3 n L v m; unfold stepOk; simp only [hWk, Bool.true_and]; refine e.trans ?_; rw [hem, hm0, hiv]; rfl)
              have HQ := Lib.hid (hQ.trans hQi)
              clear hQ hQi hWk cN cM
              go_wp2_with (go_at_call 46; with_reducible refine (cV _).mono ?_; rintro _ _ ⟨rfl, rfl⟩)
              go_ret
              exact ⟨by rw [HR.out]; rfl, HQ.out⟩
            · rw [hiv] at cV
              cases hg2 : decide (2 ≤ L.length)
              · have g2I : decide ((2 : Int) ≤ (L.length : Int)) = false := by have := of_decide_eq_false hg2; exact decide_eq_false (by omega)
                have g2N : decide (2 ≤ L.length) = false := hg2
                have HR : Hid (stepOk ⟨3, n, L, v, m⟩ = false) := Lib.hid (by have e := stepK_3 n L v m; unfold stepOk; simp only [hWk, Bool.true_and]; refine e.trans ?_; rw [hem, hm0, hiv, hg2]; rfl)
                have HQ := Lib.hid (hQ.trans hQi)
                clear hQ hQi hWk cN cM
                go_wp2_with (go_at_call 46; with_reducible refine (cV _).mono ?_; rintro _ _ ⟨rfl, rfl⟩)
                go_ret
                exact ⟨by rw [HR.out]; rfl, HQ.out⟩
              · have g2I : decide ((2 : Int) ≤ (L.length : Int)) = true := by have := of_decide_eq_true hg2; exact decide_eq_true (by omega)
                have g2N : decide (2 ≤ L.length) = true := hg2
                cases hl96 : decide (L.length ≤ 96)
                · have l96I : decide ((L.length : Int) ≤ 96) = false := by have := of_decide_eq_false hl96; exact decide_eq_false (by omega)
                  have l96N : decide (L.length ≤ 96) = false := hl96
                  have HR : Hid (stepOk ⟨3, n, L, v, m⟩ = false) := Lib.hid (by have e := stepK_3 n L v m; unfold stepOk; simp only [hWk, Bool.true_and]; refine e.trans ?_; rw [hem, hm0, hiv, hg2, hl96]; rfl)
                  have HQ := Lib.hid (hQ.trans hQi)
                  clear hQ hQi hWk cN cM
                  go_wp2_with (go_at_call 46; with_reducible refine (cV _).mono ?_; rintro _ _ ⟨rfl, rfl⟩)
                  go_ret
                  exact ⟨by rw [HR.out]; rfl, HQ.out⟩
                · have l96I : decide ((L.length : Int) ≤ 96) = true := by have := of_decide_eq_true hl96; exact decide_eq_true (by omega)
                  have l96N : decide (L.length ≤ 96) = true := hl96
                  have HR : Hid (stepOk ⟨3, n, L, v, m⟩ = true) := Lib.hid (by have e := stepK_3 n L v m; unfold stepOk; simp only [hWk, Bool.true_and]; refine e.trans ?_; rw [hem, hm0, hiv, hg2, hl96]; rfl)
                  have HQ := Lib.hid (hQ.trans hQi)
                  clear hQ hQi hWk cN cM
                  go_wp2_with (go_at_call 46; with_reducible refine (cV _).mono ?_; rintro _ _ ⟨rfl, rfl⟩)
                  go_ret
                  exact ⟨by rw [HR.out]; rfl, HQ.out⟩
      by_cases k4 : k = 4
      · subst k4
        cases hem : (n.toList == [])
        · have HR : Hid (stepOk ⟨4, n, L, v, m⟩ = false) := Lib.hid (by have e := stepK_4 n L v m; unfold stepOk; simp only [hWk, Bool.true_and]; refine e.trans ?_; rw [hem]; rfl)
          have HQ := Lib.hid (hQ.trans hQi)
          clear hQ hQi hWk cN cM
          go_wp2_with (go_at_call 46; with_reducible refine (cV _).mono ?_; rintro _ _ ⟨rfl, rfl⟩)
          go_ret
          exact ⟨by rw [HR.out]; rfl, HQ.out⟩
        · cases hm0 : decide (m = 0)
          · have m0I : (m == 0) = false := by have := of_decide_eq_false hm0; rw [beq_eq_false_iff_ne]; omega
            have HR : Hid (stepOk ⟨4, n, L, v, m⟩ = false) := Lib.hid (by have e := stepK_4 n L v m; unfold stepOk; simp only [hWk, Bool.true_and]; refine e.trans ?_; rw [hem, hm0]; rfl)
            have HQ := Lib.hid (hQ.trans hQi)
            clear hQ hQi hWk cN cM
            go_wp2_with (go_at_call 46; with_reducible refine (cV _).mono ?_; rintro _ _ ⟨rfl, rfl⟩)
            go_ret
            exact ⟨by rw [HR.out]; rfl, HQ.out⟩
          · have m0I : (m == 0) = true := by have := of_decide_eq_true hm0; first | (rw [beq_iff_eq]; omega) | (simp; omega)
            cases hiv : inB v 1 20000000
            · rw [hiv] at cV
              have HR : Hid (stepOk ⟨4, n, L, v, m⟩ = false) := Lib.hid (by have e := stepK_4 n L v m; unfold stepOk; simp only [hWk, Bool.true_and]; refine e.trans ?_; rw [hem, hm0, hiv]; rfl)
              have HQ := Lib.hid (hQ.trans hQi)
              clear hQ hQi hWk cN cM
              go_wp2_with (go_at_call 46; with_reducible refine (cV _).mono ?_; rintro _ _ ⟨rfl, rfl⟩)
              go_ret
              exact ⟨by rw [HR.out]; rfl, HQ.out⟩
            · rw [hiv] at cV
              cases hg2 : decide (2 ≤ L.length)
              · have g2I : decide ((2 : Int) ≤ (L.length : Int)) = false := by have := of_decide_eq_false hg2; exact decide_eq_false (by omega)
                have g2N : decide (2 ≤ L.length) = false := hg2
                have HR : Hid (stepOk ⟨4, n, L, v, m⟩ = false) := Lib.hid (by have e := stepK_4 n L v m; unfold stepOk; simp only [hWk, Bool.true_and]; refine e.trans ?_; rw [hem, hm0, hiv, hg2]; rfl)
                have HQ := Lib.hid (hQ.trans hQi)
                clear hQ hQi hWk cN cM
                go_wp2_with (go_at_call 46; with_reducible refine (cV _).mono ?_; rintro _ _ ⟨rfl, rfl⟩)
                go_ret
                exact ⟨by rw [HR.out]; rfl, HQ.out⟩
              · have g2I : decide ((2 : Int) ≤ (L.length : Int)) = true := by have := of_decide_eq_true hg2; exact decide_eq_true (by omega)
                have g2N : decide (2 ≤ L.length) = true := hg2
                cases hl96 : decide (L.length ≤ 96)
                · have l96I : decide ((L.length : Int) ≤ 96) = false := by have := of_decide_eq_false hl96; exact decide_eq_false (by omega)
                  have l96N : decide (L.length ≤ 96) = false := hl96
                  have HR : Hid (stepOk ⟨4, n, L, v, m⟩ = false) := Lib.hid (by have e := stepK_4 n L v m; unfold stepOk; simp only [hWk, Bool.true_and]; refine e.trans ?_; rw [hem, hm0, hiv, hg2, hl96]; rfl)
                  have HQ := Lib.hid (hQ.trans hQi)
                  clear hQ hQi hWk cN cM
                  go_wp2_with (go_at_call 46; with_reducible refine (cV _).mono ?_; rintro _ _ ⟨rfl, rfl⟩)
                  go_ret
                  exact ⟨by rw [HR.out]; rfl, HQ.out⟩
                · have l96I : decide ((L.length : Int) ≤ 96) = true := by have := of_decide_eq_true hl96; exact decide_eq_true (by omega)
                  have l96N : decide (L.length ≤ 96) = true := hl96
                  have HR : Hid (stepOk ⟨4, n, L, v, m⟩ = true) := Lib.hid (by have e := stepK_4 n L v m; unfold stepOk; simp only [hWk, Bool.true_and]; refine e.trans ?_; rw [hem, hm0, hiv, hg2, hl96]; rfl)
                  have HQ := Lib.hid (hQ.trans hQi)
                  clear hQ hQi hWk cN cM
                  go_wp2_with (go_at_call 46; with_reducible refine (cV _).mono ?_; rintro _ _ ⟨rfl, rfl⟩)
                  go_ret
                  exact ⟨by rw [HR.out]; rfl, HQ.out⟩
      by_cases k6 : k = 6
      · subst k6
        cases hem : (n.toList == [])
        · have HR : Hid (stepOk ⟨6, n, L, v, m⟩ = false) := Lib.hid (by have e := stepK_6 n L v m; unfold stepOk; simp only [hWk, Bool.true_and]; refine e.trans ?_; rw [hem]; rfl)
          have HQ := Lib.hid (hQ.trans hQi)
          clear hQ hQi hWk cN cM
          go_wp2_with (go_at_call 46; with_reducible refine (cV _).mono ?_; rintro _ _ ⟨rfl, rfl⟩)
          go_ret
          exact ⟨by rw [HR.out]; rfl, HQ.out⟩
        · cases hm0 : decide (m = 0)
          · have m0I : (m == 0) = false := by have := of_decide_eq_false hm0; rw [beq_eq_false_iff_ne]; omega
            have HR : Hid (stepOk ⟨6, n, L, v, m⟩ = false) := Lib.hid (by have e := stepK_6 n L v m; unfold stepOk; simp only [hWk, Bool.true_and]; refine e.trans ?_; rw [hem, hm0]; rfl)
            have HQ := Lib.hid (hQ.trans hQi)
            clear hQ hQi hWk cN cM
            go_wp2_with (go_at_call 46; with_reducible refine (cV _).mono ?_; rintro _ _ ⟨rfl, rfl⟩)
            go_ret
            exact ⟨by rw [HR.out]; rfl, HQ.out⟩
          · have m0I : (m == 0) = true := by have := of_decide_eq_true hm0; first | (rw [beq_iff_eq]; omega) | (simp; omega)
            cases hiv : inB v 1 20000000
            · rw [hiv] at cV
              have HR : Hid (stepOk ⟨6, n, L, v, m⟩ = false) := Lib.hid (by have e := stepK_6 n L v m; unfold stepOk; simp only [hWk, Bool.true_and]; refine e.trans ?_; rw [hem, hm0, hiv]; rfl)
              have HQ := Lib.hid (hQ.trans hQi)
              clear hQ hQi hWk cN cM
              go_wp2_with (go_at_call 46; with_reducible refine (cV _).mono ?_; rintro _ _ ⟨rfl, rfl⟩)
              go_ret
              exact ⟨by rw [HR.out]; rfl, HQ.out⟩
            · rw [hiv] at cV
              cases hg2 : decide (2 ≤ L.length)
              · have g2I : decide ((2 : Int) ≤ (L.length : Int)) = false := by have := of_decide_eq_false hg2; exact decide_eq_false (by omega)
                have g2N : decide (2 ≤ L.length) = false := hg2
                have HR : Hid (stepOk ⟨6, n, L, v, m⟩ = false) := Lib.hid (by have e := stepK_6 n L v m; unfold stepOk; simp only [hWk, Bool.true_and]; refine e.trans ?_; rw [hem, hm0, hiv, hg2]; rfl)
                have HQ := Lib.hid (hQ.trans hQi)
                clear hQ hQi hWk cN cM
                go_wp2_with (go_at_call 46; with_reducible refine (cV _).mono ?_; rintro _ _ ⟨rfl, rfl⟩)
                go_ret
                exact ⟨by rw [HR.out]; rfl, HQ.out⟩
              · have g2I : decide ((2 : Int) ≤ (L.length : Int)) = true := by have := of_decide_eq_true hg2; exact decide_eq_true (by omega)
                have g2N : decide (2 ≤ L.length) = true := hg2
                cases hl96 : decide (L.length ≤ 96)
                · have l96I : decide ((L.length : Int) ≤ 96) = false := by have := of_decide_eq_false hl96; exact decide_eq_false (by omega)
                  have l96N : decide (L.length ≤ 96) = false := hl96
                  have HR : Hid (stepOk ⟨6, n, L, v, m⟩ = false) := Lib.hid (by have e := stepK_6 n L v m; unfold stepOk; simp only [hWk, Bool.true_and]; refine e.trans ?_; rw [hem, hm0, hiv, hg2, hl96]; rfl)
                  have HQ := Lib.hid (hQ.trans hQi)
                  clear hQ hQi hWk cN cM
                  go_wp2_with (go_at_call 46; with_reducible refine (cV _).mono ?_; rintro _ _ ⟨rfl, rfl⟩)
                  go_ret
                  exact ⟨by rw [HR.out]; rfl, HQ.out⟩
                · have l96I : decide ((L.length : Int) ≤ 96) = true := by have := of_decide_eq_true hl96; exact decide_eq_true (by omega)
                  have l96N : decide (L.length ≤ 96) = true := hl96
                  have HR : Hid (stepOk ⟨6, n, L, v, m⟩ = true) := Lib.hid (by have e := stepK_6 n L v m; unfold stepOk; simp only [hWk, Bool.true_and]; refine e.trans ?_; rw [hem, hm0, hiv, hg2, hl96]; rfl)
                  have HQ := Lib.hid (hQ.trans hQi)
                  clear hQ hQi hWk cN cM
                  go_wp2_with (go_at_call 46; with_reducible refine (cV _).mono ?_; rintro _ _ ⟨rfl, rfl⟩)
                  go_ret
                  exact ⟨by rw [HR.out]; rfl, HQ.out⟩
      have kB0 : (k == 0) = false := by rw [beq_eq_false_iff_ne]; exact k0
      have kB1 : (k == 1) = false := by rw [beq_eq_false_iff_ne]; exact k1
      have kB2 : (k == 2) = false := by rw [beq_eq_false_iff_ne]; exact k2
      have kB3 : (k == 3) = false := by rw [beq_eq_false_iff_ne]; exact k3
      have kB4 : (k == 4) = false := by rw [beq_eq_false_iff_ne]; exact k4
      have kB5 : (k == 5) = false := by rw [beq_eq_false_iff_ne]; exact k5
      have kB6 : (k == 6) = false := by rw [beq_eq_false_iff_ne]; exact k6
      have HR : Hid (stepOk ⟨k, n, L, v, m⟩ = false) := Lib.hid (by unfold stepOk stepK; simp only [hWk, Bool.true_and]; simp [k0, k1, k2, k3, k4, k5, k6])
      have HQ := Lib.hid (hQ.trans hQi)
      clear hQ hQi hWk cN cV cM
      go_wp2_with fail
      go_ret
      exact ⟨by rw [HR.out]; rfl, HQ.out⟩
end Go.Proofs.YtnmcgleanpdlmaaDoor

namespace Go.Proofs.YtnmcgleanpdlmaaDoor
open Go.RowKit
set_option linter.unusedVariables false
set_option maxRecDepth 100000 in
set_option maxHeartbeats 2000000 in
theorem r8stepsright_any (v : Value) (L : List Sp) (w : World) (h : IsSps w v L) : Calls Tryd.prog 9 #[v] w fun e w' => e = .returned (.bool (stepsOk L)) ∧ Q w w' := by
  obtain ⟨ao, ac, rfl⟩ := h.form
  have hlen := h.len
  by_cases h200 : 200 < L.length
  · have hB : decide ((200 : Int) < (L.length : Int)) = true := decide_eq_true (by omega)
    have hN : decide (200 < L.length) = true := decide_eq_true h200
    have HR : Hid (stepsOk L = false) := Lib.hid (by unfold stepsOk; rw [decide_eq_false (by omega)]; rfl)
    clear h h200
    go_enter Tryd.func9, Tryd.ntmps9
    go_wp2
    go_ret
    exact ⟨by rw [HR.out]; rfl, Q.refl _⟩
  · have hB : decide ((200 : Int) < (L.length : Int)) = false := decide_eq_false (by omega)
    have hN : decide (200 < L.length) = false := decide_eq_false h200
    go_enter Tryd.func9, Tryd.ntmps9
    go_wp2_with fail
    go_loopw [3] (fun iv wr => ∃ i : Nat, i ≤ L.length ∧ iv = .int .i64 i ∧ (L.take i).all stepOk = true ∧ Q w wr) (fun iv _ => L.length + 1 - (intOf iv).toNat)
    case atStart => exact ⟨0, Nat.zero_le _, rfl, rfl, Q.refl _⟩
    case round =>
      obtain ⟨i, hi, rfl, hok, hQi⟩ := hrel
      obtain ⟨wo, rfl⟩ : ∃ wo : World, wo = wr := ⟨_, rfl⟩
      by_cases hl : i < L.length
      · have hlB : decide ((i : Int) < (L.length : Int)) = true := decide_eq_true (by omega)
        have hlN : decide (i < L.length) = true := decide_eq_true hl
        have hlI : (i : Int) < (L.length : Int) := by omega
        have hi0 : (0 : Int) ≤ (i : Int) := by omega
        have wk1 : IntKind.i64.wrap ((i : Int) + 1) = (i : Int) + 1 := by rw [IntKind.wrap_i64]; omega
        obtain ⟨a, cap, e1, _, _, hr⟩ := (h.keepB hQi.b).at_ hl
        obtain ⟨rfl, _, rfl⟩ : ao = some a ∧ True ∧ ac = cap := by simpa using e1
        obtain ⟨F, hF⟩ : ∃ F, L[i]? = some F := ⟨_, List.getElem?_eq_getElem hl⟩
        have hFe : L[i] = F := by rw [List.getElem?_eq_getElem hl] at hF; simpa using hF
        rw [hFe] at hr
        have hup : (L.take (i + 1)).all stepOk = stepOk F := by
          rw [List.take_add_one, hF, List.all_append, hok]
          simp
        have hbad : stepOk F = false → stepsOk L = false := fun he => by
          have e : L.all stepOk = false := List.all_eq_false.2 ⟨_, List.mem_of_getElem? hF, by simp [he]⟩
          unfold stepsOk
          rw [e, Bool.and_false]
        obtain ⟨K, N, WS, V, M⟩ := F
        obtain ⟨g0, g1, ⟨sv, g2, g5⟩, g3, g4⟩ := hr
        simp only at g0 g1 g2 g3 g4 g5
        have cS := r8stepright_any K N WS V M sv wo g5
        obtain ⟨so, sc, rfl⟩ := g5.form
        generalize stepOk ⟨K, N, WS, V, M⟩ = OK at *
        have HL := Lib.hid hl
        have HQ := Lib.hid hQi
        clear hF hFe e1 hl hQi h hok g5
        generalize WS.length = wl at *
        cases OK
        · have HR := Lib.hid (hbad rfl)
          clear hup hbad
          go_wp2_with fail
          refine cS.mono ?_
          rintro _ w5 ⟨rfl, q5⟩
          have HQ5 := Lib.hid (HQ.out.trans q5)
          clear cS g0 g1 g2 g3 g4 q5
          go_wp2
          go_ret
          exact ⟨by rw [HR.out]; rfl, HQ5.out⟩
        · have HU := Lib.hid hup
          clear hup hbad
          go_wp2_with fail
          refine cS.mono ?_
          rintro _ w5 ⟨rfl, q5⟩
          have HQ5 := Lib.hid (HQ.out.trans q5)
          clear cS g0 g1 g2 g3 g4 q5
          go_wp2
          go_roundw
          case rel => exact ⟨i + 1, by have := HL.out; omega, by go_num, HU.out, HQ5.out⟩
          case measure => have := HL.out; simp [intOf]; omega
      · have hlB : decide ((i : Int) < (L.length : Int)) = false := decide_eq_false (by omega)
        have hlN : decide (i < L.length) = false := decide_eq_false hl
        rw [List.take_of_length_le (by omega)] at hok
        have HR : Hid (stepsOk L = true) := Lib.hid (by unfold stepsOk; rw [hok, decide_eq_true (by omega : L.length ≤ 200)]; rfl)
        have HQ := Lib.hid hQi
        clear hok hl hi h hQi
        go_wp2
        go_ret
        exact ⟨by rw [HR.out]; rfl, HQ.out⟩
end Go.Proofs.YtnmcgleanpdlmaaDoor

namespace Go.Proofs.YtnmcgleanpdlmaaDoor
open Go.RowKit
set_option linter.unusedVariables false
def wellsT (l : List Wp) : List UInt8 := l.flatMap fun p => 32 :: p.t
theorem wellT_len9 (n : ByteArray) (r c : Int) : (wellT n r c).length ≤ 50 := by
  unfold wellT
  split
  · rename_i h
    obtain ⟨hn, h0, h8, c0, c12⟩ := h
    obtain ⟨k, rfl⟩ := Int.eq_ofNat_of_zero_le c0
    have := decS_size (n := k + 1) (by omega)
    rw [decS_strB, strB_size, show (((k + 1 : Nat) : Int)) = (k : Int) + 1 by omega] at this
    have hz : n.data.toList.length ≤ 24 := by
      have e : n.data.toList.length = n.size := Array.length_toList
      rw [e]
      unfold nameS at hn
      have h16 := of_decide_eq_true (Bool.and_eq_true_iff.1 (Bool.and_eq_true_iff.1 (Bool.and_eq_true_iff.1 hn).1).1).2
      omega
    simp only [List.length_append, List.length_cons, List.length_nil]
    omega
  · simp
set_option maxRecDepth 100000 in
set_option maxHeartbeats 2000000 in
theorem r8wells_any (v : Value) (l : List Wp) (w : World) (h : IsWps w v l) (h96 : l.length ≤ 1000) : Calls Tryd.prog 30 #[v] w fun e w' => e = .returned (.string (strB (wellsT l))) ∧ Q w w' := by
  obtain ⟨ao, ac, rfl⟩ := h.form
  go_enter Tryd.func30, Tryd.ntmps30
  go_wp2_with fail
  go_loopw [3, 4] (fun sv iv wr => ∃ (i : Nat) (s : ByteArray), i ≤ l.length ∧ iv = .int .i64 i ∧ sv = .string s ∧ s = strB (wellsT (l.take i)) ∧ s.size ≤ 51 * i ∧ Q w wr) (fun _ iv _ => l.length + 1 - (intOf iv).toNat)
  case atStart => exact ⟨0, _, Nat.zero_le _, rfl, rfl, rfl, by decide, Q.refl _⟩
  case round =>
    obtain ⟨i, s, hi, rfl, rfl, hs, hsz, hQi⟩ := hrel
    obtain ⟨wo, rfl⟩ : ∃ wo : World, wo = wr := ⟨_, rfl⟩
    by_cases hl : i < l.length
    · have hlB : decide ((i : Int) < (l.length : Int)) = true := decide_eq_true (by omega)
      have hlN : decide (i < l.length) = true := decide_eq_true hl
      have hlI : (i : Int) < (l.length : Int) := by omega
      have hi0 : (0 : Int) ≤ (i : Int) := by omega
      have wk1 : IntKind.i64.wrap ((i : Int) + 1) = (i : Int) + 1 := by rw [IntKind.wrap_i64]; omega
      obtain ⟨a, cap, e1, _, _, hr⟩ := (h.keepB hQi.b).at_ hl
      obtain ⟨rfl, _, rfl⟩ : ao = some a ∧ True ∧ ac = cap := by simpa using e1
      obtain ⟨F, hF⟩ : ∃ F, l[i]? = some F := ⟨_, List.getElem?_eq_getElem hl⟩
      have hFe : l[i] = F := by rw [List.getElem?_eq_getElem hl] at hF; simpa using hF
      rw [hFe] at hr
      obtain ⟨N, R, C⟩ := F
      obtain ⟨g0, g1, g2⟩ := hr
      simp only at g0 g1 g2
      have cT := r8wtext_any N R C wo
      obtain ⟨WT, hWT⟩ : ∃ WT, strB (wellT N R C) = WT := ⟨_, rfl⟩
      have hz : WT.size ≤ 50 := by rw [← hWT, strB_size]; exact wellT_len9 N R C
      rw [hWT] at cT
      obtain ⟨s1, j1⟩ : ∃ x, s ++ ({ data := #[32] } : ByteArray) = x := ⟨_, rfl⟩
      have z1 : s1.size ≤ 51 * i + 1 := by rw [← j1, ByteArray.size_append]; show s.size + 1 ≤ _; omega
      obtain ⟨s2, j2⟩ : ∃ x, s1 ++ WT = x := ⟨_, rfl⟩
      have z2 : s2.size ≤ 51 * (i + 1) := by rw [← j2, ByteArray.size_append]; omega
      have n1 : ¬ 9223372036854775807 < s.size + 1 := by omega
      have m1 : ¬ 9223372036854775807 < s.size + ({ data := #[32] } : ByteArray).size := n1
      have n2 : ¬ 9223372036854775807 < s1.size + WT.size := by omega
      have HE : Hid (s2 = strB (wellsT (l.take (i + 1)))) := Lib.hid (by
        unfold wellsT
        rw [take_flat hF, ← j2, ← j1, hs, ← hWT, show ({ data := #[32] } : ByteArray) = strB [32] from rfl, strB_app, strB_app, List.append_assoc]
        rfl)
      have HL := Lib.hid (And.intro hl z2)
      have HQ := Lib.hid hQi
      clear hs hWT hF hFe e1 hl hQi h z1 z2 hsz hz
      go_wp2_with fail
      refine cT.mono ?_
      rintro _ w5 ⟨rfl, q5⟩
      have HQ5 := Lib.hid (HQ.out.trans q5)
      clear cT g0 g1 g2 q5
      go_wp2
      go_roundw
      case rel => exact ⟨i + 1, s2, by have := HL.out.1; omega, by go_num, rfl, HE.out, HL.out.2, HQ5.out⟩
      case measure => have := HL.out.1; simp [intOf]; omega
    · have hlB : decide ((i : Int) < (l.length : Int)) = false := decide_eq_false (by omega)
      have hlN : decide (i < l.length) = false := decide_eq_false hl
      rw [List.take_of_length_le (by omega)] at hs
      have HS := Lib.hid (And.intro hs hQi)
      clear hs hQi hl h
      go_wp2
      go_ret
      exact ⟨by first | rfl | (rw [HS.out.1]; rfl), HS.out.2⟩
end Go.Proofs.YtnmcgleanpdlmaaDoor

namespace Go.Proofs.YtnmcgleanpdlmaaDoor
open Go.RowKit
set_option linter.unusedVariables false
theorem kind_word {k : Int} (h0 : 0 ≤ k) (h6 : k ≤ 6) : (#[Value.string { data := #[117, 115, 101] }, Value.string { data := #[102, 114, 101, 115, 104] }, Value.string { data := #[116, 114, 97, 110, 115, 102, 101, 114] }, Value.string { data := #[115, 112, 114, 101, 97, 100] }, Value.string { data := #[103, 97, 116, 104, 101, 114] }, Value.string { data := #[109, 105, 120] }, Value.string { data := #[100, 105, 108, 117, 116, 101] }] : Array Value)[k.toNat]? = some (.string (strB (kindW k))) := by
  have : k = 0 ∨ k = 1 ∨ k = 2 ∨ k = 3 ∨ k = 4 ∨ k = 5 ∨ k = 6 := by omega
  rcases this with rfl | rfl | rfl | rfl | rfl | rfl | rfl <;> rfl
theorem r8names_any (w : World) : Calls Tryd.prog 28 #[] w fun e w' => ∃ b, e = .returned (.slice (some ⟨b, 0, none⟩) 7 7) ∧ Q w w' ∧ w.heap.size ≤ b ∧ ∀ k : Int, 0 ≤ k → k ≤ 6 → w'.cell? ⟨b, k.toNat, none⟩ = some (.string (strB (kindW k))) := by
  go_enter Tryd.func28, Tryd.ntmps28
  go_wp2
  go_ret
  refine ⟨_, rfl, (Q.refl w).alloc _ _, Nat.le_refl _, fun k h0 h6 => ?_⟩
  rw [World.cell?_alloc_new]
  exact kind_word h0 h6
end Go.Proofs.YtnmcgleanpdlmaaDoor
