/-
  Contract of the document's stepRight; Contract of the document's StepsRight; Arguments opened: a slice of pieces.
-/
import Derived.Laws.Strings2
import Derived.Laws.Slices
import Derived.KernelRfl
import Derived.Test.YtnmcgleanpdlmaaChecked
import Derived.ProofKit
import Derived.OpenShut
import Derived.Deep.Slices
import Derived.ChangeArms
import Derived.Test.YtnmcgleanpdlmaaY1
import Derived.Test.YtnmcgleanpdlmaaY2
import Derived.Test.YtnmcgleanpdlmaaY3
import Derived.Test.YtnmcgleanpdlmaaY4
import Derived.Test.YtnmcgleanpdlmaaY5
import Derived.Test.YtnmcgleanpdlmaaY7
import Derived.Test.YtnmcgleanpdlmaaY8
import Derived.Test.YtnmcgleanpdlmaaY11
import Derived.Test.YtnmcgleanpdlmaaY12
import Derived.Test.YtnmcgleanpdlmaaY13
import Derived.Test.YtnmcgleanpdlmaaY16
import Derived.Test.YtnmcgleanpdlmaaY19
import Derived.Test.YtnmcgleanpdlmaaY20
namespace Go.Proofs.Ytnmcgleanpdlmaa
open Go.RowKit
set_option linter.unusedVariables false
set_option maxRecDepth 100000 in
set_option maxHeartbeats 4000000 in
theorem r8stepright_any (k : Int) (n : ByteArray) (L : List Wp) (v m : Int) (wsv : Value) (w : World) (h : IsWps w wsv L) : Calls Try.prog 40 #[.agg #[.int .i64 k, .string n, wsv, .int .i64 v, .int .i64 m]] w fun e w' => e = .returned (.bool (stepOk ⟨k, n, L, v, m⟩)) ∧ Q w w' := by
  obtain ⟨ao, ac, rfl⟩ := h.form
  have hQ := (Q.refl w).alloc #[.int .i64 k, .string n, .slice ao L.length ac, .int .i64 v, .int .i64 m] 82
  have oB := obj_new w (.cells #[.int .i64 k, .string n, .slice ao L.length ac, .int .i64 v, .int .i64 m] 82)
  obtain ⟨W, hW⟩ : ∃ W, w.alloc (.cells #[.int .i64 k, .string n, .slice ao L.length ac, .int .i64 v, .int .i64 m] 82) = W := ⟨_, rfl⟩
  rw [hW] at hQ oB
  replace h := h.keepB hQ.b
  have hlen := h.len
  have cN := fun w => r8name_any n w
  have cV := fun w => r8in_any v 1 20000000 w
  have cM := fun w => r8in_any m 1 20 w
  go_enter Try.func40, Try.ntmps40
  go_wp2_with fail
  try rw [hW]
  clear hW
  generalize w.heap.size = H at *
  go_loopw [3] (fun iv wr => ∃ i : Nat, i ≤ L.length ∧ iv = .int .i64 i ∧ wellsOk (L.take i) = true ∧ Q W wr) (fun iv _ => L.length + 1 - (intOf iv).toNat)
  case atStart => exact ⟨0, Nat.zero_le _, rfl, rfl, Q.refl _⟩
  case round =>
    obtain ⟨i, hi, rfl, hok, hQi⟩ := hrel
    obtain ⟨wo, rfl⟩ : ∃ wo : World, wo = wr := ⟨_, rfl⟩
    have oB1 := hQi.b.obj oB
    have b0 : wo.cell? ⟨H, 0, none⟩ = some (.int .i64 k) := obj_cell oB1 0
    have b1 : wo.cell? ⟨H, 1, none⟩ = some (.string n) := obj_cell oB1 1
    have b2 : wo.cell? ⟨H, 2, none⟩ = some (.slice ao L.length ac) := obj_cell oB1 2
    have b3 : wo.cell? ⟨H, 3, none⟩ = some (.int .i64 v) := obj_cell oB1 3
    have b4 : wo.cell? ⟨H, 4, none⟩ = some (.int .i64 m) := obj_cell oB1 4
    by_cases hl : i < L.length
    · have hlB : decide ((i : Int) < (L.length : Int)) = true := decide_eq_true (by omega)
      have hlN : decide (i < L.length) = true := decide_eq_true hl
      have hlI : (i : Int) < (L.length : Int) := by omega
      have hi0 : (0 : Int) ≤ (i : Int) := by omega
      have wk1 : IntKind.i64.wrap ((i : Int) + 1) = (i : Int) + 1 := by rw [IntKind.wrap_i64]; omega
      obtain ⟨a, cap, e1, _, _, hr⟩ := (h.keepB hQi.b).at_ hl
      obtain ⟨rfl, _, rfl⟩ : ao = some a ∧ True ∧ ac = cap := by simpa using e1
      obtain ⟨F, hF⟩ : ∃ F, L[i]? = some F := ⟨_, List.getElem?_eq_getElem hl⟩
      have hFe : L[i] = F := by rw [List.getElem?_eq_getElem hl] at hF; simpa using hF
      rw [hFe] at hr
      obtain ⟨N, R, C⟩ := F
      obtain ⟨g0, g1, g2⟩ := hr
      simp only at g0 g1 g2
      have cT := r8wtext_any N R C wo
      have hup : wellsOk (L.take (i + 1)) = !(wellT N R C).isEmpty := by
        unfold wellsOk at hok ⊢
        rw [List.take_add_one, hF, List.all_append, hok]
        simp [Wp.t]
      have hbad : (wellT N R C).isEmpty = true → wellsOk L = false := fun he => by
        unfold wellsOk
        rw [List.all_eq_false]
        exact ⟨_, List.mem_of_getElem? hF, by simp [Wp.t] at he ⊢; exact he⟩
      have hte : ((strB (wellT N R C)).toList == []) = (wellT N R C).isEmpty := by
        rw [toList_data]
        show (wellT N R C == []) = _
        cases wellT N R C <;> rfl
      generalize strB (wellT N R C) = WT at *
      generalize (wellT N R C).isEmpty = EM at *
      have HL := Lib.hid hl
      have HQ := Lib.hid (hQ.trans hQi)
      have HQ2 := Lib.hid hQi
      clear hF hFe e1 hl hQi hQ h hok oB1
      cases EM
      · have HU := Lib.hid hup
        clear hup hbad
        go_wp2_with fail
        refine cT.mono ?_
        rintro _ w5 ⟨rfl, q5⟩
        have HQ5 := Lib.hid (HQ2.out.trans q5)
        clear cT g0 g1 g2 q5
        go_wp2
        go_roundw
        case rel => exact ⟨i + 1, by have := HL.out; omega, by go_num, HU.out, HQ5.out⟩
        case measure => have := HL.out; simp [intOf]; omega
      · have HR : Hid (stepOk ⟨k, n, L, v, m⟩ = false) := Lib.hid (by unfold stepOk; simp only [hbad rfl, Bool.false_and])
        clear hup hbad
        go_wp2_with fail
        refine cT.mono ?_
        rintro _ w5 ⟨rfl, q5⟩
        have HQ5 := Lib.hid (HQ.out.trans q5)
        clear cT g0 g1 g2 q5
        go_wp2
        go_ret
        exact ⟨by rw [HR.out]; rfl, HQ5.out⟩
    · have hlB : decide ((i : Int) < (L.length : Int)) = false := decide_eq_false (by omega)
      have hlN : decide (i < L.length) = false := decide_eq_false hl
      rw [List.take_of_length_le (by omega)] at hok
      have hWk : wellsOk L = true := hok
      clear hok hl hi h oB1 oB hlen
      by_cases k0 : k = 0
      · subst k0
        cases hnm : nameS n
        · rw [hnm] at cN
          have HR : Hid (stepOk ⟨0, n, L, v, m⟩ = false) := Lib.hid (by have e := stepK_0 n L v m; unfold stepOk; simp only [hWk, Bool.true_and]; refine e.trans ?_; rw [hnm]; rfl)
          have HQ := Lib.hid (hQ.trans hQi)
          clear hQ hQi hWk cV cM
          go_wp2_with (go_at_call 61; with_reducible refine (cN _).mono ?_; rintro _ _ ⟨rfl, rfl⟩)
          go_ret
          exact ⟨by rw [HR.out]; rfl, HQ.out⟩
        · rw [hnm] at cN
          cases hl0 : decide (L.length = 0)
          · have l0I : ((L.length : Int) == 0) = false := by have := of_decide_eq_false hl0; rw [beq_eq_false_iff_ne]; omega
            have l0N : (L.length == 0) = false := by have := of_decide_eq_false hl0; rw [beq_eq_false_iff_ne]; omega
            have HR : Hid (stepOk ⟨0, n, L, v, m⟩ = false) := Lib.hid (by have e := stepK_0 n L v m; unfold stepOk; simp only [hWk, Bool.true_and]; refine e.trans ?_; rw [hnm, hl0]; rfl)
            have HQ := Lib.hid (hQ.trans hQi)
            clear hQ hQi hWk cV cM
            go_wp2_with (go_at_call 61; with_reducible refine (cN _).mono ?_; rintro _ _ ⟨rfl, rfl⟩)
            go_ret
            exact ⟨by rw [HR.out]; rfl, HQ.out⟩
          · have l0I : ((L.length : Int) == 0) = true := by have := of_decide_eq_true hl0; first | (rw [beq_iff_eq]; omega) | (simp; omega)
            have l0N : (L.length == 0) = true := by have := of_decide_eq_true hl0; first | (rw [beq_iff_eq]; omega) | (simp; omega)
            cases hv0 : decide (v = 0)
            · have v0I : (v == 0) = false := by have := of_decide_eq_false hv0; rw [beq_eq_false_iff_ne]; omega
              have HR : Hid (stepOk ⟨0, n, L, v, m⟩ = false) := Lib.hid (by have e := stepK_0 n L v m; unfold stepOk; simp only [hWk, Bool.true_and]; refine e.trans ?_; rw [hnm, hl0, hv0]; rfl)
              have HQ := Lib.hid (hQ.trans hQi)
              clear hQ hQi hWk cV cM
              go_wp2_with (go_at_call 61; with_reducible refine (cN _).mono ?_; rintro _ _ ⟨rfl, rfl⟩)
              go_ret
              exact ⟨by rw [HR.out]; rfl, HQ.out⟩
            · have v0I : (v == 0) = true := by have := of_decide_eq_true hv0; first | (rw [beq_iff_eq]; omega) | (simp; omega)
              cases hm0 : decide (m = 0)
              · have m0I : (m == 0) = false := by have := of_decide_eq_false hm0; rw [beq_eq_false_iff_ne]; omega
                have HR : Hid (stepOk ⟨0, n, L, v, m⟩ = false) := Lib.hid (by have e := stepK_0 n L v m; unfold stepOk; simp only [hWk, Bool.true_and]; refine e.trans ?_; rw [hnm, hl0, hv0, hm0]; rfl)
                have HQ := Lib.hid (hQ.trans hQi)
                clear hQ hQi hWk cV cM
                go_wp2_with (go_at_call 61; with_reducible refine (cN _).mono ?_; rintro _ _ ⟨rfl, rfl⟩)
                go_ret
                exact ⟨by rw [HR.out]; rfl, HQ.out⟩
              · have m0I : (m == 0) = true := by have := of_decide_eq_true hm0; first | (rw [beq_iff_eq]; omega) | (simp; omega)
                have HR : Hid (stepOk ⟨0, n, L, v, m⟩ = true) := Lib.hid (by have e := stepK_0 n L v m; unfold stepOk; simp only [hWk, Bool.true_and]; refine e.trans ?_; rw [hnm, hl0, hv0, hm0]; rfl)
                have HQ := Lib.hid (hQ.trans hQi)
                clear hQ hQi hWk cV cM
                go_wp2_with (go_at_call 61; with_reducible refine (cN _).mono ?_; rintro _ _ ⟨rfl, rfl⟩)
                go_ret
                exact ⟨by rw [HR.out]; rfl, HQ.out⟩
      by_cases k1 : k = 1
      · subst k1
        cases hem : (n.toList == [])
        · have HR : Hid (stepOk ⟨1, n, L, v, m⟩ = false) := Lib.hid (by have e := stepK_1 n L v m; unfold stepOk; simp only [hWk, Bool.true_and]; refine e.trans ?_; rw [hem]; rfl)
          have HQ := Lib.hid (hQ.trans hQi)
          clear hQ hQi hWk cN cV cM
          go_wp2_with fail
          go_ret
          exact ⟨by rw [HR.out]; rfl, HQ.out⟩
        · cases hl0 : decide (L.length = 0)
          · have l0I : ((L.length : Int) == 0) = false := by have := of_decide_eq_false hl0; rw [beq_eq_false_iff_ne]; omega
            have l0N : (L.length == 0) = false := by have := of_decide_eq_false hl0; rw [beq_eq_false_iff_ne]; omega
            have HR : Hid (stepOk ⟨1, n, L, v, m⟩ = false) := Lib.hid (by have e := stepK_1 n L v m; unfold stepOk; simp only [hWk, Bool.true_and]; refine e.trans ?_; rw [hem, hl0]; rfl)
            have HQ := Lib.hid (hQ.trans hQi)
            clear hQ hQi hWk cN cV cM
            go_wp2_with fail
            go_ret
            exact ⟨by rw [HR.out]; rfl, HQ.out⟩
          · have l0I : ((L.length : Int) == 0) = true := by have := of_decide_eq_true hl0; first | (rw [beq_iff_eq]; omega) | (simp; omega)
            have l0N : (L.length == 0) = true := by have := of_decide_eq_true hl0; first | (rw [beq_iff_eq]; omega) | (simp; omega)
            cases hv0 : decide (v = 0)
            · have v0I : (v == 0) = false := by have := of_decide_eq_false hv0; rw [beq_eq_false_iff_ne]; omega
              have HR : Hid (stepOk ⟨1, n, L, v, m⟩ = false) := Lib.hid (by have e := stepK_1 n L v m; unfold stepOk; simp only [hWk, Bool.true_and]; refine e.trans ?_; rw [hem, hl0, hv0]; rfl)
              have HQ := Lib.hid (hQ.trans hQi)
              clear hQ hQi hWk cN cV cM
              go_wp2_with fail
              go_ret
              exact ⟨by rw [HR.out]; rfl, HQ.out⟩
            · have v0I : (v == 0) = true := by have := of_decide_eq_true hv0; first | (rw [beq_iff_eq]; omega) | (simp; omega)
              by_cases h0 : m = 0
              · subst h0
                have HR : Hid (stepOk ⟨1, n, L, v, 0⟩ = true) := Lib.hid (by have e := stepK_1 n L v (0 : Int); unfold stepOk; simp only [hWk, Bool.true_and]; refine e.trans ?_; rw [hem, hl0, hv0]; rfl)
                have HQ := Lib.hid (hQ.trans hQi)
                clear hQ hQi hWk cN cV cM
                go_wp2_with fail
                go_ret
                exact ⟨by rw [HR.out]; rfl, HQ.out⟩
              · have m0I : (m == 0) = false := by rw [beq_eq_false_iff_ne]; exact h0
                by_cases h1 : m = 1
                · subst h1
                  have HR : Hid (stepOk ⟨1, n, L, v, 1⟩ = true) := Lib.hid (by have e := stepK_1 n L v (1 : Int); unfold stepOk; simp only [hWk, Bool.true_and]; refine e.trans ?_; rw [hem, hl0, hv0]; rfl)
                  have HQ := Lib.hid (hQ.trans hQi)
                  clear hQ hQi hWk cN cV cM
                  go_wp2_with fail
                  go_ret
                  exact ⟨by rw [HR.out]; rfl, HQ.out⟩
                · have m1I : (m == 1) = false := by rw [beq_eq_false_iff_ne]; exact h1
                  have d0 : decide (m = 0) = false := decide_eq_false h0
                  have d1 : decide (m = 1) = false := decide_eq_false h1
                  have HR : Hid (stepOk ⟨1, n, L, v, m⟩ = false) := Lib.hid (by have e := stepK_1 n L v m; unfold stepOk; simp only [hWk, Bool.true_and]; refine e.trans ?_; rw [hem, hl0, hv0, d0, d1]; rfl)
                  have HQ := Lib.hid (hQ.trans hQi)
                  clear hQ hQi hWk cN cV cM
                  go_wp2_with fail
                  go_ret
                  exact ⟨by rw [HR.out]; rfl, HQ.out⟩
      by_cases k5 : k = 5
      · subst k5
        cases hem : (n.toList == [])
        · have HR : Hid (stepOk ⟨5, n, L, v, m⟩ = false) := Lib.hid (by have e := stepK_5 n L v m; unfold stepOk; simp only [hWk, Bool.true_and]; refine e.trans ?_; rw [hem]; rfl)
          have HQ := Lib.hid (hQ.trans hQi)
          clear hQ hQi hWk cN
          go_wp2_with (go_at_call 63; first | (with_reducible refine (cV _).mono ?_; rintro _ _ ⟨rfl, rfl⟩) | (with_reducible refine (cM _).mono ?_; rintro _ _ ⟨rfl, rfl⟩))
          go_ret
          exact ⟨by rw [HR.out]; rfl, HQ.out⟩
        · cases hl1 : decide (L.length = 1)
          · have l1I : ((L.length : Int) == 1) = false := by have := of_decide_eq_false hl1; rw [beq_eq_false_iff_ne]; omega
            have l1N : (L.length == 1) = false := by have := of_decide_eq_false hl1; rw [beq_eq_false_iff_ne]; omega
            have HR : Hid (stepOk ⟨5, n, L, v, m⟩ = false) := Lib.hid (by have e := stepK_5 n L v m; unfold stepOk; simp only [hWk, Bool.true_and]; refine e.trans ?_; rw [hem, hl1]; rfl)
            have HQ := Lib.hid (hQ.trans hQi)
            clear hQ hQi hWk cN
            go_wp2_with (go_at_call 63; first | (with_reducible refine (cV _).mono ?_; rintro _ _ ⟨rfl, rfl⟩) | (with_reducible refine (cM _).mono ?_; rintro _ _ ⟨rfl, rfl⟩))
            go_ret
            exact ⟨by rw [HR.out]; rfl, HQ.out⟩
          · have l1I : ((L.length : Int) == 1) = true := by have := of_decide_eq_true hl1; first | (rw [beq_iff_eq]; omega) | (simp; omega)
            have l1N : (L.length == 1) = true := by have := of_decide_eq_true hl1; first | (rw [beq_iff_eq]; omega) | (simp; omega)
            cases hiv : inB v 1 20000000
            · rw [hiv] at cV
              have HR : Hid (stepOk ⟨5, n, L, v, m⟩ = false) := Lib.hid (by have e := stepK_5 n L v m; unfold stepOk; simp only [hWk, Bool.true_and]; refine e.trans ?_; rw [hem, hl1, hiv]; rfl)
              have HQ := Lib.hid (hQ.trans hQi)
              clear hQ hQi hWk cN
              go_wp2_with (go_at_call 63; first | (with_reducible refine (cV _).mono ?_; rintro _ _ ⟨rfl, rfl⟩) | (with_reducible refine (cM _).mono ?_; rintro _ _ ⟨rfl, rfl⟩))
              go_ret
              exact ⟨by rw [HR.out]; rfl, HQ.out⟩
            · rw [hiv] at cV
              cases him : inB m 1 20
              · rw [him] at cM
                have HR : Hid (stepOk ⟨5, n, L, v, m⟩ = false) := Lib.hid (by have e := stepK_5 n L v m; unfold stepOk; simp only [hWk, Bool.true_and]; refine e.trans ?_; rw [hem, hl1, hiv, him]; rfl)
                have HQ := Lib.hid (hQ.trans hQi)
                clear hQ hQi hWk cN
                go_wp2_with (go_at_call 63; first | (with_reducible refine (cV _).mono ?_; rintro _ _ ⟨rfl, rfl⟩) | (with_reducible refine (cM _).mono ?_; rintro _ _ ⟨rfl, rfl⟩))
                go_ret
                exact ⟨by rw [HR.out]; rfl, HQ.out⟩
              · rw [him] at cM
                have HR : Hid (stepOk ⟨5, n, L, v, m⟩ = true) := Lib.hid (by have e := stepK_5 n L v m; unfold stepOk; simp only [hWk, Bool.true_and]; refine e.trans ?_; rw [hem, hl1, hiv, him]; rfl)
                have HQ := Lib.hid (hQ.trans hQi)
                clear hQ hQi hWk cN
                go_wp2_with (go_at_call 63; first | (with_reducible refine (cV _).mono ?_; rintro _ _ ⟨rfl, rfl⟩) | (with_reducible refine (cM _).mono ?_; rintro _ _ ⟨rfl, rfl⟩))
                go_ret
                exact ⟨by rw [HR.out]; rfl, HQ.out⟩
      by_cases k2 : k = 2
      · subst k2
        cases hem : (n.toList == [])
        · have HR : Hid (stepOk ⟨2, n, L, v, m⟩ = false) := Lib.hid (by have e := stepK_2 n L v m; unfold stepOk; simp only [hWk, Bool.true_and]; refine e.trans ?_; rw [hem]; rfl)
          have HQ := Lib.hid (hQ.trans hQi)
          clear hQ hQi hWk cN cM
          go_wp2_with (go_at_call 63; with_reducible refine (cV _).mono ?_; rintro _ _ ⟨rfl, rfl⟩)
          go_ret
          exact ⟨by rw [HR.out]; rfl, HQ.out⟩
        · cases hm0 : decide (m = 0)
          · have m0I : (m == 0) = false := by have := of_decide_eq_false hm0; rw [beq_eq_false_iff_ne]; omega
            have HR : Hid (stepOk ⟨2, n, L, v, m⟩ = false) := Lib.hid (by have e := stepK_2 n L v m; unfold stepOk; simp only [hWk, Bool.true_and]; refine e.trans ?_; rw [hem, hm0]; rfl)
            have HQ := Lib.hid (hQ.trans hQi)
            clear hQ hQi hWk cN cM
            go_wp2_with (go_at_call 63; with_reducible refine (cV _).mono ?_; rintro _ _ ⟨rfl, rfl⟩)
            go_ret
            exact ⟨by rw [HR.out]; rfl, HQ.out⟩
          · have m0I : (m == 0) = true := by have := of_decide_eq_true hm0; first | (rw [beq_iff_eq]; omega) | (simp; omega)
            cases hiv : inB v 1 20000000
            · rw [hiv] at cV
              have HR : Hid (stepOk ⟨2, n, L, v, m⟩ = false) := Lib.hid (by have e := stepK_2 n L v m; unfold stepOk; simp only [hWk, Bool.true_and]; refine e.trans ?_; rw [hem, hm0, hiv]; rfl)
              have HQ := Lib.hid (hQ.trans hQi)
              clear hQ hQi hWk cN cM
              go_wp2_with (go_at_call 63; with_reducible refine (cV _).mono ?_; rintro _ _ ⟨rfl, rfl⟩)
              go_ret
              exact ⟨by rw [HR.out]; rfl, HQ.out⟩
            · rw [hiv] at cV
              cases hg2 : decide (2 ≤ L.length)
              · have g2I : decide ((2 : Int) ≤ (L.length : Int)) = false := by have := of_decide_eq_false hg2; exact decide_eq_false (by omega)
                have g2N : decide (2 ≤ L.length) = false := hg2
                have HR : Hid (stepOk ⟨2, n, L, v, m⟩ = false) := Lib.hid (by have e := stepK_2 n L v m; unfold stepOk; simp only [hWk, Bool.true_and]; refine e.trans ?_; rw [hem, hm0, hiv, hg2]; rfl)
                have HQ := Lib.hid (hQ.trans hQi)
                clear hQ hQi hWk cN cM
                go_wp2_with (go_at_call 63; with_reducible refine (cV _).mono ?_; rintro _ _ ⟨rfl, rfl⟩)
                go_ret
                exact ⟨by rw [HR.out]; rfl, HQ.out⟩
              · have g2I : decide ((2 : Int) ≤ (L.length : Int)) = true := by have := of_decide_eq_true hg2; exact decide_eq_true (by omega)
                have g2N : decide (2 ≤ L.length) = true := hg2
                cases hl96 : decide (L.length ≤ 96)
                · have l96I : decide ((L.length : Int) ≤ 96) = false := by have := of_decide_eq_false hl96; exact decide_eq_false (by omega)
                  have l96N : decide (L.length ≤ 96) = false := hl96
                  have HR : Hid (stepOk ⟨2, n, L, v, m⟩ = false) := Lib.hid (by have e := stepK_2 n L v m; unfold stepOk; simp only [hWk, Bool.true_and]; refine e.trans ?_; rw [hem, hm0, hiv, hg2, hl96]; rfl)
                  have HQ := Lib.hid (hQ.trans hQi)
                  clear hQ hQi hWk cN cM
                  go_wp2_with (go_at_call 63; with_reducible refine (cV _).mono ?_; rintro _ _ ⟨rfl, rfl⟩)
                  go_ret
                  exact ⟨by rw [HR.out]; rfl, HQ.out⟩
                · have l96I : decide ((L.length : Int) ≤ 96) = true := by have := of_decide_eq_true hl96; exact decide_eq_true (by omega)
                  have l96N : decide (L.length ≤ 96) = true := hl96
                  cases hq2 : decide (L.length = 2)
                  · have q2I : ((L.length : Int) == 2) = false := by have := of_decide_eq_false hq2; rw [beq_eq_false_iff_ne]; omega
                    have q2N : (L.length == 2) = false := by have := of_decide_eq_false hq2; rw [beq_eq_false_iff_ne]; omega
                    have HR : Hid (stepOk ⟨2, n, L, v, m⟩ = false) := Lib.hid (by have e := stepK_2 n L v m; unfold stepOk; simp only [hWk, Bool.true_and]; refine e.trans ?_; rw [hem, hm0, hiv, hg2, hl96, hq2]; rfl)
                    have HQ := Lib.hid (hQ.trans hQi)
                    clear hQ hQi hWk cN cM
                    go_wp2_with (go_at_call 63; with_reducible refine (cV _).mono ?_; rintro _ _ ⟨rfl, rfl⟩)
                    go_ret
                    exact ⟨by rw [HR.out]; rfl, HQ.out⟩
                  · have q2I : ((L.length : Int) == 2) = true := by have := of_decide_eq_true hq2; first | (rw [beq_iff_eq]; omega) | (simp; omega)
                    have q2N : (L.length == 2) = true := by have := of_decide_eq_true hq2; first | (rw [beq_iff_eq]; omega) | (simp; omega)
                    have HR : Hid (stepOk ⟨2, n, L, v, m⟩ = true) := Lib.hid (by have e := stepK_2 n L v m; unfold stepOk; simp only [hWk, Bool.true_and]; refine e.trans ?_; rw [hem, hm0, hiv, hg2, hl96, hq2]; rfl)
                    have HQ := Lib.hid (hQ.trans hQi)
                    clear hQ hQi hWk cN cM
                    go_wp2_with (go_at_call 63; with_reducible refine (cV _).mono ?_; rintro _ _ ⟨rfl, rfl⟩)
                    go_ret
                    exact ⟨by rw [HR.out]; rfl, HQ.out⟩
      by_cases k3 : k = 3
      · subst k3
        cases hem : (n.toList == [])
        · have HR : Hid (stepOk ⟨3, n, L, v, m⟩ = false) := Lib.hid (by have e := stepK_3 n L v m; unfold stepOk; simp only [hWk, Bool.true_and]; refine e.trans ?_; rw [hem]; rfl)
          have HQ := Lib.hid (hQ.trans hQi)
          clear hQ hQi hWk cN cM
          go_wp2_with (go_at_call 63; with_reducible refine (cV _).mono ?_; rintro _ _ ⟨rfl, rfl⟩)
          go_ret
          exact ⟨by rw [HR.out]; rfl, HQ.out⟩
        · cases hm0 : decide (m = 0)
          · have m0I : (m == 0) = false := by have := of_decide_eq_false hm0; rw [beq_eq_false_iff_ne]; omega
            have HR : Hid (stepOk ⟨3, n, L, v, m⟩ = false) := Lib.hid (by have e := stepK_3 n L v m; unfold stepOk; simp only [hWk, Bool.true_and]; refine e.trans ?_; rw [hem, hm0]; rfl)
            have HQ := Lib.hid (hQ.trans hQi)
            clear hQ hQi hWk cN cM
            go_wp2_with (go_at_call 63; with_reducible refine (cV _).mono ?_; rintro _ _ ⟨rfl, rfl⟩)
            go_ret
            exact ⟨by rw [HR.out]; rfl, HQ.out⟩
          · have m0I : (m == 0) = true := by have := of_decide_eq_true hm0; first | (rw [beq_iff_eq]; omega) | (simp; omega)
            cases hiv : inB v 1 20000000
            · rw [hiv] at cV
              have HR : Hid (stepOk ⟨3, n, L, v, m⟩ = false) := Lib.hid (by have e := stepK_3 n L v m; unfold stepOk; simp only [hWk, Bool.true_and]; refine e.trans ?_; rw [hem, hm0, hiv]; rfl)
              have HQ := Lib.hid (hQ.trans hQi)
              clear hQ hQi hWk cN cM
              go_wp2_with (go_at_call 63; with_reducible refine (cV _).mono ?_; rintro _ _ ⟨rfl, rfl⟩)
              go_ret
              exact ⟨by rw [HR.out]; rfl, HQ.out⟩
            · rw [hiv] at cV
              cases hg2 : decide (2 ≤ L.length)
              · have g2I : decide ((2 : Int) ≤ (L.length : Int)) = false := by have := of_decide_eq_false hg2; exact decide_eq_false (by omega)
                have g2N : decide (2 ≤ L.length) = false := hg2
                have HR : Hid (stepOk ⟨3, n, L, v, m⟩ = false) := Lib.hid (by have e := stepK_3 n L v m; unfold stepOk; simp only [hWk, Bool.true_and]; refine e.trans ?_; rw [hem, hm0, hiv, hg2]; rfl)
                have HQ := Lib.hid (hQ.trans hQi)
                clear hQ hQi hWk cN cM
                go_wp2_with (go_at_call 63; with_reducible refine (cV _).mono ?_; rintro _ _ ⟨rfl, rfl⟩)
                go_ret
                exact ⟨by rw [HR.out]; rfl, HQ.out⟩
              · have g2I : decide ((2 : Int) ≤ (L.length : Int)) = true := by have := of_decide_eq_true hg2; exact decide_eq_true (by omega)
                have g2N : decide (2 ≤ L.length) = true := hg2
                cases hl96 : decide (L.length ≤ 96)
                · have l96I : decide ((L.length : Int) ≤ 96) = false := by have := of_decide_eq_false hl96; exact decide_eq_false (by omega)
                  have l96N : decide (L.length ≤ 96) = false := hl96
                  have HR : Hid (stepOk ⟨3, n, L, v, m⟩ = false) := Lib.hid (by have e := stepK_3 n L v m; unfold stepOk; simp only [hWk, Bool.true_and]; refine e.trans ?_; rw [hem, hm0, hiv, hg2, hl96]; rfl)
                  have HQ := Lib.hid (hQ.trans hQi)
                  clear hQ hQi hWk cN cM
                  go_wp2_with (go_at_call 63; with_reducible refine (cV _).mono ?_; rintro _ _ ⟨rfl, rfl⟩)
                  go_ret
                  exact ⟨by rw [HR.out]; rfl, HQ.out⟩
                · have l96I : decide ((L.length : Int) ≤ 96) = true := by have := of_decide_eq_true hl96; exact decide_eq_true (by omega)
                  have l96N : decide (L.length ≤ 96) = true := hl96
                  have HR : Hid (stepOk ⟨3, n, L, v, m⟩ = true) := Lib.hid (by have e := stepK_3 n L v m; unfold stepOk; simp only [hWk, Bool.true_and]; refine e.trans ?_; rw [hem, hm0, hiv, hg2, hl96]; rfl)
                  have HQ := Lib.hid (hQ.trans hQi)
                  clear hQ hQi hWk cN cM
                  go_wp2_with (go_at_call 63; with_reducible refine (cV _).mono ?_; rintro _ _ ⟨rfl, rfl⟩)
                  go_ret
                  exact ⟨by rw [HR.out]; rfl, HQ.out⟩
      by_cases k4 : k = 4
      · subst k4
        cases hem : (n.toList == [])
        · have HR : Hid (stepOk ⟨4, n, L, v, m⟩ = false) := Lib.hid (by have e := stepK_4 n L v m; unfold stepOk; simp only [hWk, Bool.true_and]; refine e.trans ?_; rw [hem]; rfl)
          have HQ := Lib.hid (hQ.trans hQi)
          clear hQ hQi hWk cN cM
          go_wp2_with (go_at_call 63; with_reducible refine (cV _).mono ?_; rintro _ _ ⟨rfl, rfl⟩)
          go_ret
          exact ⟨by rw [HR.out]; rfl, HQ.out⟩
        · cases hm0 : decide (m = 0)
          · have m0I : (m == 0) = false := by have := of_decide_eq_false hm0; rw [beq_eq_false_iff_ne]; omega
            have HR : Hid (stepOk ⟨4, n, L, v, m⟩ = false) := Lib.hid (by have e := stepK_4 n L v m; unfold stepOk; simp only [hWk, Bool.true_and]; refine e.trans ?_; rw [hem, hm0]; rfl)
            have HQ := Lib.hid (hQ.trans hQi)
            clear hQ hQi hWk cN cM
            go_wp2_with (go_at_call 63; with_reducible refine (cV _).mono ?_; rintro _ _ ⟨rfl, rfl⟩)
            go_ret
            exact ⟨by rw [HR.out]; rfl, HQ.out⟩
          · have m0I : (m == 0) = true := by have := of_decide_eq_true hm0; first | (rw [beq_iff_eq]; omega) | (simp; omega)
            cases hiv : inB v 1 20000000
            · rw [hiv] at cV
              have HR : Hid (stepOk ⟨4, n, L, v, m⟩ = false) := Lib.hid (by have e := stepK_4 n L v m; unfold stepOk; simp only [hWk, Bool.true_and]; refine e.trans ?_; rw [hem, hm0, hiv]; rfl)
              have HQ := Lib.hid (hQ.trans hQi)
              clear hQ hQi hWk cN cM
              go_wp2_with (go_at_call 63; with_reducible refine (cV _).mono ?_; rintro _ _ ⟨rfl, rfl⟩)
              go_ret
              exact ⟨by rw [HR.out]; rfl, HQ.out⟩
            · rw [hiv] at cV
              cases hg2 : decide (2 ≤ L.length)
              · have g2I : decide ((2 : Int) ≤ (L.length : Int)) = false := by have := of_decide_eq_false hg2; exact decide_eq_false (by omega)
                have g2N : decide (2 ≤ L.length) = false := hg2
                have HR : Hid (stepOk ⟨4, n, L, v, m⟩ = false) := Lib.hid (by have e := stepK_4 n L v m; unfold stepOk; simp only [hWk, Bool.true_and]; refine e.trans ?_; rw [hem, hm0, hiv, hg2]; rfl)
                have HQ := Lib.hid (hQ.trans hQi)
                clear hQ hQi hWk cN cM
                go_wp2_with (go_at_call 63; with_reducible refine (cV _).mono ?_; rintro _ _ ⟨rfl, rfl⟩)
                go_ret
                exact ⟨by rw [HR.out]; rfl, HQ.out⟩
              · have g2I : decide ((2 : Int) ≤ (L.length : Int)) = true := by have := of_decide_eq_true hg2; exact decide_eq_true (by omega)
                have g2N : decide (2 ≤ L.length) = true := hg2
                cases hl96 : decide (L.length ≤ 96)
                · have l96I : decide ((L.length : Int) ≤ 96) = false := by have := of_decide_eq_false hl96; exact decide_eq_false (by omega)
                  have l96N : decide (L.length ≤ 96) = false := hl96
                  have HR : Hid (stepOk ⟨4, n, L, v, m⟩ = false) := Lib.hid (by have e := stepK_4 n L v m; unfold stepOk; simp only [hWk, Bool.true_and]; refine e.trans ?_; rw [hem, hm0, hiv, hg2, hl96]; rfl)
                  have HQ := Lib.hid (hQ.trans hQi)
                  clear hQ hQi hWk cN cM
                  go_wp2_with (go_at_call 63; with_reducible refine (cV _).mono ?_; rintro _ _ ⟨rfl, rfl⟩)
                  go_ret
                  exact ⟨by rw [HR.out]; rfl, HQ.out⟩
                · have l96I : decide ((L.length : Int) ≤ 96) = true := by have := of_decide_eq_true hl96; exact decide_eq_true (by omega)
                  have l96N : decide (L.length ≤ 96) = true := hl96
                  have HR : Hid (stepOk ⟨4, n, L, v, m⟩ = true) := Lib.hid (by have e := stepK_4 n L v m; unfold stepOk; simp only [hWk, Bool.true_and]; refine e.trans ?_; rw [hem, hm0, hiv, hg2, hl96]; rfl)
                  have HQ := Lib.hid (hQ.trans hQi)
                  clear hQ hQi hWk cN cM
                  go_wp2_with (go_at_call 63; with_reducible refine (cV _).mono ?_; rintro _ _ ⟨rfl, rfl⟩)
                  go_ret
                  exact ⟨by rw [HR.out]; rfl, HQ.out⟩
      by_cases k6 : k = 6
      · subst k6
        cases hem : (n.toList == [])
        · have HR : Hid (stepOk ⟨6, n, L, v, m⟩ = false) := Lib.hid (by have e := stepK_6 n L v m; unfold stepOk; simp only [hWk, Bool.true_and]; refine e.trans ?_; rw [hem]; rfl)
          have HQ := Lib.hid (hQ.trans hQi)
          clear hQ hQi hWk cN cM
          go_wp2_with (go_at_call 63; with_reducible refine (cV _).mono ?_; rintro _ _ ⟨rfl, rfl⟩)
          go_ret
          exact ⟨by rw [HR.out]; rfl, HQ.out⟩
        · cases hm0 : decide (m = 0)
          · have m0I : (m == 0) = false := by have := of_decide_eq_false hm0; rw [beq_eq_false_iff_ne]; omega
            have HR : Hid (stepOk ⟨6, n, L, v, m⟩ = false) := Lib.hid (by have e := stepK_6 n L v m; unfold stepOk; simp only [hWk, Bool.true_and]; refine e.trans ?_; rw [hem, hm0]; rfl)
            have HQ := Lib.hid (hQ.trans hQi)
            clear hQ hQi hWk cN cM
            go_wp2_with (go_at_call 63; with_reducible refine (cV _).mono ?_; rintro _ _ ⟨rfl, rfl⟩)
            go_ret
            exact ⟨by rw [HR.out]; rfl, HQ.out⟩
          · have m0I : (m == 0) = true := by have := of_decide_eq_true hm0; first | (rw [beq_iff_eq]; omega) | (simp; omega)
            cases hiv : inB v 1 20000000
            · rw [hiv] at cV
              have HR : Hid (stepOk ⟨6, n, L, v, m⟩ = false) := Lib.hid (by have e := stepK_6 n L v m; unfold stepOk; simp only [hWk, Bool.true_and]; refine e.trans ?_; rw [hem, hm0, hiv]; rfl)
              have HQ := Lib.hid (hQ.trans hQi)
              clear hQ hQi hWk cN cM
              go_wp2_with (go_at_call 63; with_reducible refine (cV _).mono ?_; rintro _ _ ⟨rfl, rfl⟩)
              go_ret
              exact ⟨by rw [HR.out]; rfl, HQ.out⟩
            · rw [hiv] at cV
              cases hg2 : decide (2 ≤ L.length)
              · have g2I : decide ((2 : Int) ≤ (L.length : Int)) = false := by have := of_decide_eq_false hg2; exact decide_eq_false (by omega)
                have g2N : decide (2 ≤ L.length) = false := hg2
                have HR : Hid (stepOk ⟨6, n, L, v, m⟩ = false) := Lib.hid (by have e := stepK_6 n L v m; unfold stepOk; simp only [hWk, Bool.true_and]; refine e.trans ?_; rw [hem, hm0, hiv, hg2]; rfl)
                have HQ := Lib.hid (hQ.trans hQi)
                clear hQ hQi hWk cN cM
                go_wp2_with (go_at_call 63; with_reducible refine (cV _).mono ?_; rintro _ _ ⟨rfl, rfl⟩)
                go_ret
                exact ⟨by rw [HR.out]; rfl, HQ.out⟩
              · have g2I : decide ((2 : Int) ≤ (L.length : Int)) = true := by have := of_decide_eq_true hg2; exact decide_eq_true (by omega)
                have g2N : decide (2 ≤ L.length) = true := hg2
                cases hl96 : decide (L.length ≤ 96)
                · have l96I : decide ((L.length : Int) ≤ 96) = false := by have := of_decide_eq_false hl96; exact decide_eq_false (by omega)
                  have l96N : decide (L.length ≤ 96) = false := hl96
                  have HR : Hid (stepOk ⟨6, n, L, v, m⟩ = false) := Lib.hid (by have e := stepK_6 n L v m; unfold stepOk; simp only [hWk, Bool.true_and]; refine e.trans ?_; rw [hem, hm0, hiv, hg2, hl96]; rfl)
                  have HQ := Lib.hid (hQ.trans hQi)
                  clear hQ hQi hWk cN cM
                  go_wp2_with (go_at_call 63; with_reducible refine (cV _).mono ?_; rintro _ _ ⟨rfl, rfl⟩)
                  go_ret
                  exact ⟨by rw [HR.out]; rfl, HQ.out⟩
                · have l96I : decide ((L.length : Int) ≤ 96) = true := by have := of_decide_eq_true hl96; exact decide_eq_true (by omega)
                  have l96N : decide (L.length ≤ 96) = true := hl96
                  have HR : Hid (stepOk ⟨6, n, L, v, m⟩ = true) := Lib.hid (by have e := stepK_6 n L v m; unfold stepOk; simp only [hWk, Bool.true_and]; refine e.trans ?_; rw [hem, hm0, hiv, hg2, hl96]; rfl)
                  have HQ := Lib.hid (hQ.trans hQi)
                  clear hQ hQi hWk cN cM
                  go_wp2_with (go_at_call 63; with_reducible refine (cV _).mono ?_; rintro _ _ ⟨rfl, rfl⟩)
                  go_ret
                  exact ⟨by rw [HR.out]; rfl, HQ.out⟩
      have kB0 : (k == 0) = false := by rw [beq_eq_false_iff_ne]; exact k0
      have kB1 : (k == 1) = false := by rw [beq_eq_false_iff_ne]; exact k1
      have kB2 : (k == 2) = false := by rw [beq_eq_false_iff_ne]; exact k2
      have kB3 : (k == 3) = false := by rw [beq_eq_false_iff_ne]; exact k3
      have kB4 : (k == 4) = false := by rw [beq_eq_false_iff_ne]; exact k4
      have kB5 : (k == 5) = false := by rw [beq_eq_false_iff_ne]; exact k5
      have kB6 : (k == 6) = false := by rw [beq_eq_false_iff_ne]; exact k6
      have HR : Hid (stepOk ⟨k, n, L, v, m⟩ = false) := Lib.hid (by unfold stepOk stepK; simp only [hWk, Bool.true_and]; simp [k0, k1, k2, k3, k4, k5, k6])
      have HQ := Lib.hid (hQ.trans hQi)
      clear hQ hQi hWk cN cV cM
      go_wp2_with fail
      go_ret
      exact ⟨by rw [HR.out]; rfl, HQ.out⟩
end Go.Proofs.Ytnmcgleanpdlmaa

namespace Go.Proofs.Ytnmcgleanpdlmaa
open Go.RowKit
set_option linter.unusedVariables false
set_option maxRecDepth 100000 in
set_option maxHeartbeats 2000000 in
theorem r8stepsright_any (v : Value) (L : List Sp) (w : World) (h : IsSps w v L) : Calls Try.prog 22 #[v] w fun e w' => e = .returned (.bool (stepsOk L)) ∧ Q w w' := by
  obtain ⟨ao, ac, rfl⟩ := h.form
  have hlen := h.len
  by_cases h200 : 200 < L.length
  · have hB : decide ((200 : Int) < (L.length : Int)) = true := decide_eq_true (by omega)
    have hN : decide (200 < L.length) = true := decide_eq_true h200
    have HR : Hid (stepsOk L = false) := Lib.hid (by unfold stepsOk; rw [decide_eq_false (by omega)]; rfl)
    clear h h200
    go_enter Try.func22, Try.ntmps22
    go_wp2
    go_ret
    exact ⟨by rw [HR.out]; rfl, Q.refl _⟩
  · have hB : decide ((200 : Int) < (L.length : Int)) = false := decide_eq_false (by omega)
    have hN : decide (200 < L.length) = false := decide_eq_false h200
    go_enter Try.func22, Try.ntmps22
    go_wp2_with fail
    go_loopw [3] (fun iv wr => ∃ i : Nat, i ≤ L.length ∧ iv = .int .i64 i ∧ (L.take i).all stepOk = true ∧ Q w wr) (fun iv _ => L.length + 1 - (intOf iv).toNat)
    case atStart => exact ⟨0, Nat.zero_le _, rfl, rfl, Q.refl _⟩
    case round =>
      obtain ⟨i, hi, rfl, hok, hQi⟩ := hrel
      obtain ⟨wo, rfl⟩ : ∃ wo : World, wo = wr := ⟨_, rfl⟩
      by_cases hl : i < L.length
      · have hlB : decide ((i : Int) < (L.length : Int)) = true := decide_eq_true (by omega)
        have hlN : decide (i < L.length) = true := decide_eq_true hl
        have hlI : (i : Int) < (L.length : Int) := by omega
        have hi0 : (0 : Int) ≤ (i : Int) := by omega
        have wk1 : IntKind.i64.wrap ((i : Int) + 1) = (i : Int) + 1 := by rw [IntKind.wrap_i64]; omega
        obtain ⟨a, cap, e1, _, _, hr⟩ := (h.keepB hQi.b).at_ hl
        obtain ⟨rfl, _, rfl⟩ : ao = some a ∧ True ∧ ac = cap := by simpa using e1
        obtain ⟨F, hF⟩ : ∃ F, L[i]? = some F := ⟨_, List.getElem?_eq_getElem hl⟩
        have hFe : L[i] = F := by rw [List.getElem?_eq_getElem hl] at hF; simpa using hF
        rw [hFe] at hr
        have hup : (L.take (i + 1)).all stepOk = stepOk F := by
          rw [List.take_add_one, hF, List.all_append, hok]
          simp
        have hbad : stepOk F = false → stepsOk L = false := fun he => by
          have e : L.all stepOk = false := List.all_eq_false.2 ⟨_, List.mem_of_getElem? hF, by simp [he]⟩
          unfold stepsOk
          rw [e, Bool.and_false]
        obtain ⟨K, N, WS, V, M⟩ := F
        obtain ⟨g0, g1, ⟨sv, g2, g5⟩, g3, g4⟩ := hr
        simp only at g0 g1 g2 g3 g4 g5
        have cS := r8stepright_any K N WS V M sv wo g5
        obtain ⟨so, sc, rfl⟩ := g5.form
        generalize stepOk ⟨K, N, WS, V, M⟩ = OK at *
        have HL := Lib.hid hl
        have HQ := Lib.hid hQi
        clear hF hFe e1 hl hQi h hok g5
        generalize WS.length = wl at *
        cases OK
        · have HR := Lib.hid (hbad rfl)
          clear hup hbad
          go_wp2_with fail
          refine cS.mono ?_
          rintro _ w5 ⟨rfl, q5⟩
          have HQ5 := Lib.hid (HQ.out.trans q5)
          clear cS g0 g1 g2 g3 g4 q5
          go_wp2
          go_ret
          exact ⟨by rw [HR.out]; rfl, HQ5.out⟩
        · have HU := Lib.hid hup
          clear hup hbad
          go_wp2_with fail
          refine cS.mono ?_
          rintro _ w5 ⟨rfl, q5⟩
          have HQ5 := Lib.hid (HQ.out.trans q5)
          clear cS g0 g1 g2 g3 g4 q5
          go_wp2
          go_roundw
          case rel => exact ⟨i + 1, by have := HL.out; omega, by go_num, HU.out, HQ5.out⟩
          case measure => have := HL.out; simp [intOf]; omega
      · have hlB : decide ((i : Int) < (L.length : Int)) = false := decide_eq_false (by omega)
        have hlN : decide (i < L.length) = false := decide_eq_false hl
        rw [List.take_of_length_le (by omega)] at hok
        have HR : Hid (stepsOk L = true) := Lib.hid (by unfold stepsOk; rw [hok, decide_eq_true (by omega : L.length ≤ 200)]; rfl)
        have HQ := Lib.hid hQi
        clear hok hl hi h hQi
        go_wp2
        go_ret
        exact ⟨by rw [HR.out]; rfl, HQ.out⟩
end Go.Proofs.Ytnmcgleanpdlmaa

namespace Go.Proofs.Ytnmcgleanpdlmaa
open Go.RowKit Go.ChangeShapes Go.WideShapes Go.ChangeAt Go.Deep
instance : Inhabited Pz := ⟨⟨0, 0, 0, 0, 0⟩⟩
def Pz.cells (z : Pz) : List Value := [.int .u8 (z.k : Int), .int .u8 (z.a : Int), .int .u8 (z.b : Int), .int .u8 (z.c : Int), .int .u32 (z.v : Int)]
def Pz.ok (z : Pz) : Prop := z.k < 256 ∧ z.a < 256 ∧ z.b < 256 ∧ z.c < 256 ∧ z.v < 4294967296
theorem u8_n {a : Int} (w : (Lit.int .u8 a).wf = true) : 0 ≤ a ∧ a < 256 := by
  simp [Lit.wf, IntKind.min, IntKind.max, IntKind.signed, IntKind.bits] at w
  omega
theorem u32_n {a : Int} (w : (Lit.int .u32 a).wf = true) : 0 ≤ a ∧ a < 4294967296 := by
  simp [Lit.wf, IntKind.min, IntKind.max, IntKind.signed, IntKind.bits] at w
  omega
set_option maxRecDepth 100000 in
theorem pz_open {H : Type} {enc : TypeId × Value → H} {W : World} {base : Nat} {sp : Nat → Bool} {held : Bool} {fuel : Nat} {cs : List Value} {x : DataW H × List MemPlace}
    (h : DataW.trod enc Try.prog W base sp held fuel 88 cs = some x) : ∃ s : Pz, s.ok ∧ cs = s.cells := by
  obtain ⟨xs, n, _, _, hl, hlen, hf⟩ := DataW.trod_struct Try.underlying88 h
  rw [show Try.prog.cellsOf 88 = 5 by kernel_rfl] at hl
  have c1 : Try.prog.cellsOf 5 = 1 := by kernel_rfl
  have c0 : Try.prog.cellsOf 48 = 1 := by kernel_rfl
  match xs, hlen, cs, hl with
  | [x0, x1, x2, x3, x4], _, [v0, v1, v2, v3, v4], _ =>
    have f0 : DataW.trod enc Try.prog W base sp held n 5 (([v0, v1, v2, v3, v4].drop 0).take (Try.prog.cellsOf 5)) = some x0 := hf 0 _ rfl
    have f1 : DataW.trod enc Try.prog W base sp held n 5 (([v0, v1, v2, v3, v4].drop 1).take (Try.prog.cellsOf 5)) = some x1 := hf 1 _ rfl
    have f2 : DataW.trod enc Try.prog W base sp held n 5 (([v0, v1, v2, v3, v4].drop 2).take (Try.prog.cellsOf 5)) = some x2 := hf 2 _ rfl
    have f3 : DataW.trod enc Try.prog W base sp held n 5 (([v0, v1, v2, v3, v4].drop 3).take (Try.prog.cellsOf 5)) = some x3 := hf 3 _ rfl
    have f4 : DataW.trod enc Try.prog W base sp held n 48 (([v0, v1, v2, v3, v4].drop 4).take (Try.prog.cellsOf 48)) = some x4 := hf 4 _ rfl
    rw [c1] at f0 f1 f2 f3
    rw [c0] at f4
    obtain ⟨a0, e0, _, w0⟩ := DataW.trod_int Try.underlying5 f0
    obtain ⟨a1, e1, _, w1⟩ := DataW.trod_int Try.underlying5 f1
    obtain ⟨a2, e2, _, w2⟩ := DataW.trod_int Try.underlying5 f2
    obtain ⟨a3, e3, _, w3⟩ := DataW.trod_int Try.underlying5 f3
    obtain ⟨a4, e4, _, w4⟩ := DataW.trod_int Try.underlying48 f4
    simp at e0 e1 e2 e3 e4
    subst e0 e1 e2 e3 e4
    obtain ⟨l0, m0⟩ := u8_n w0
    obtain ⟨l1, m1⟩ := u8_n w1
    obtain ⟨l2, m2⟩ := u8_n w2
    obtain ⟨l3, m3⟩ := u8_n w3
    obtain ⟨l4, m4⟩ := u32_n w4
    obtain ⟨n0, rfl⟩ := Int.eq_ofNat_of_zero_le l0
    obtain ⟨n1, rfl⟩ := Int.eq_ofNat_of_zero_le l1
    obtain ⟨n2, rfl⟩ := Int.eq_ofNat_of_zero_le l2
    obtain ⟨n3, rfl⟩ := Int.eq_ofNat_of_zero_le l3
    obtain ⟨n4, rfl⟩ := Int.eq_ofNat_of_zero_le l4
    exact ⟨⟨n0, n1, n2, n3, n4⟩, ⟨by show n0 < 256; omega, by show n1 < 256; omega, by show n2 < 256; omega, by show n3 < 256; omega, by show n4 < 4294967296; omega⟩, rfl⟩
set_option maxRecDepth 100000 in
theorem open_pzs {H : Type} {enc : TypeId × Value → H} {W : World} {base b0 : Nat} {sp : Nat → Bool} {held : Bool} {r : Reach} {v : Value} {d : DataW H} {p : List MemPlace}
    (hv : Value.okWide Try.prog W r b0 23 v) (h : DataW.Trod enc Try.prog W base sp held 23 v d p) : ∃ l, IsPzs W v l := by
  obtain ⟨o, len, cap, rfl⟩ := okWide_slice Try.underlying23 hv
  obtain ⟨fuel, hf⟩ := h
  rcases open_slice Try.underlying23 hf with ⟨hcs, _⟩ | ⟨a, ln, cp, m, n, D, Pl, hcs, _, hl, hm, hmm, _, hx⟩
  · simp [Value.cells] at hcs
    obtain ⟨rfl, rfl, rfl⟩ := hcs
    exact ⟨[], .inl ⟨rfl, rfl⟩⟩
  · simp [Value.cells] at hcs
    obtain ⟨rfl, rfl, rfl⟩ := hcs
    rw [show Try.prog.cellsOf 88 = 5 by kernel_rfl] at hx
    have hle : len ≤ m := by rw [hmm]; split <;> omega
    obtain ⟨S, hS⟩ := choose_lt (α := Pz) (n := len) (p := fun i s => s.ok ∧ ∀ j, j < 5 → W.cell? ((a.add (i * 5)).add j) = s.cells[j]?) (fun i hi => by
      obtain ⟨cs', h1, h2⟩ := hx i (by omega)
      obtain ⟨s, hI, rfl⟩ := pz_open h2
      obtain ⟨_, _, h3⟩ := World.cells?_some h1
      exact ⟨s, hI, h3⟩)
    refine ⟨(List.range len).map S, .inr ⟨a, cap, by simp, by simpa using hl, hm, fun i s hs => ?_⟩⟩
    have hi : i < len := by
      have := (List.getElem?_eq_some_iff.1 hs).1
      simpa using this
    have e : s = S i := by
      rw [List.getElem?_map, List.getElem?_range hi] at hs
      simpa using hs.symm
    subst e
    obtain ⟨hI, hc⟩ := hS i hi
    generalize a.add (i * 5) = q at *
    have g0 := hc 0 (by omega)
    have g1 := hc 1 (by omega)
    have g2 := hc 2 (by omega)
    have g3 := hc 3 (by omega)
    have g4 := hc 4 (by omega)
    simp [Addr.add, Pz.cells] at g0 g1 g2 g3 g4
    exact ⟨g0, g1, g2, g3, g4, hI⟩
end Go.Proofs.Ytnmcgleanpdlmaa
