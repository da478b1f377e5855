/-
  The code's steps that may be; The code's protocols that may be; Right steps come back from their text, with the bounds that the program's readers ask for; The code's texts of wells.
-/
import Derived.Test.YtnmcgleanpdlmaaDoorChecked
import Derived.ProofKit
import Derived.OpenShut
import Derived.Deep.Slices
import Derived.ChangeArms
import Derived.Test.YtnmcgleanpdlmaaDoorY1
import Derived.Test.YtnmcgleanpdlmaaDoorY2
import Derived.Test.YtnmcgleanpdlmaaDoorY3
import Derived.Test.YtnmcgleanpdlmaaDoorY4
import Derived.Test.YtnmcgleanpdlmaaDoorY5
import Derived.Test.YtnmcgleanpdlmaaDoorY6
import Derived.Test.YtnmcgleanpdlmaaDoorY7
import Derived.Test.YtnmcgleanpdlmaaDoorY8
import Derived.Test.YtnmcgleanpdlmaaDoorY9
import Derived.Test.YtnmcgleanpdlmaaDoorY10
import Derived.Test.YtnmcgleanpdlmaaDoorY11
import Derived.Test.YtnmcgleanpdlmaaDoorY12
import Derived.Test.YtnmcgleanpdlmaaDoorY13
namespace Go.Proofs.YtnmcgleanpdlmaaDoor
open Go.RowKit
set_option linter.unusedVariables false
def WpsI (L : List Wp) : Prop := ∀ p ∈ L, I64 p.r ∧ I64 p.c
set_option maxRecDepth 100000 in
set_option maxHeartbeats 2000000 in
theorem pwritten_any (wv : Value) (L : List Wp) (least most : Nat) (w : World) (h : IsWps w wv L) (hI : WpsI L) : Calls Tryd.prog 43 #[wv, .int .i64 (least : Int), .int .i64 (most : Int)] w fun e w' => e = .returned (.bool (decide (least ≤ L.length) && decide (L.length ≤ most) && wellsOk L)) ∧ B w w' := by
  obtain ⟨ao, ac, rfl⟩ := h.form
  have hlen := h.len
  obtain ⟨ln, hln⟩ : ∃ ln, L.length = ln := ⟨_, rfl⟩
  rw [hln] at hlen ⊢
  have HL := Lib.hid hln
  have HI := Lib.hid h
  clear h hln
  by_cases h1 : ln < least
  · have b1 : decide ((ln : Int) < (least : Int)) = true := decide_eq_true (by omega)
    have b2 : decide (ln < least) = true := decide_eq_true h1
    have HR := Lib.hid (show decide (least ≤ ln) = false from decide_eq_false (by omega))
    have HB := Lib.hid (B.refl w)
    clear h1
    go_enter Tryd.func43, Tryd.ntmps43
    go_wp2
    go_ret
    exact ⟨by rw [HR.out]; rfl, HB.out⟩
  have b1 : decide ((ln : Int) < (least : Int)) = false := decide_eq_false (by omega)
  have b2 : decide (ln < least) = false := decide_eq_false h1
  by_cases h3 : most < ln
  · have b3 : decide ((most : Int) < (ln : Int)) = true := decide_eq_true (by omega)
    have b4 : decide (most < ln) = true := decide_eq_true h3
    have HR := Lib.hid (show decide (ln ≤ most) = false from decide_eq_false (by omega))
    have HB := Lib.hid (B.refl w)
    clear h1 h3
    go_enter Tryd.func43, Tryd.ntmps43
    go_wp2
    go_ret
    exact ⟨by rw [HR.out, Bool.and_false]; rfl, HB.out⟩
  have b3 : decide ((most : Int) < (ln : Int)) = false := decide_eq_false (by omega)
  have b4 : decide (most < ln) = false := decide_eq_false h3
  have HR := Lib.hid (show (decide (least ≤ ln) && decide (ln ≤ most)) = true by rw [decide_eq_true (by omega), decide_eq_true (by omega)]; rfl)
  clear h1 h3
  go_enter Tryd.func43, Tryd.ntmps43
  go_wp2_with fail
  go_loopw [21] (fun iv wr => ∃ i : Nat, i ≤ ln ∧ iv = .int .i64 i ∧ (L.take i).all (fun p => !p.t.isEmpty) = true ∧ B w wr) (fun iv _ => ln + 1 - (intOf iv).toNat)
  case atStart => exact ⟨0, Nat.zero_le _, rfl, rfl, B.refl _⟩
  case round =>
    obtain ⟨i, hi, rfl, hok, q⟩ := hrel
    obtain ⟨wi, rfl⟩ : ∃ wi : World, wi = wr := ⟨_, rfl⟩
    by_cases hl : i < ln
    · have hlB : decide ((i : Int) < (ln : Int)) = true := decide_eq_true (by omega)
      have hlN : decide (i < ln) = true := decide_eq_true hl
      have hlI : (i : Int) < (ln : Int) := by omega
      have hi0 : (0 : Int) ≤ (i : Int) := by omega
      have wk1 : IntKind.i64.wrap ((i : Int) + 1) = (i : Int) + 1 := by rw [IntKind.wrap_i64]; omega
      obtain ⟨a, cap, e1, _, _, hr⟩ := (HI.out.keepB q).at_ (i := i) (by rw [HL.out]; exact hl)
      obtain ⟨rfl, _⟩ : ao = some a ∧ True := by simp at e1; exact ⟨e1.1, trivial⟩
      obtain ⟨X, hX⟩ : ∃ X, L[i]? = some X := ⟨_, List.getElem?_eq_getElem (by rw [HL.out]; exact hl)⟩
      rw [show L[i]'(by rw [HL.out]; exact hl) = X by rw [List.getElem?_eq_getElem (by rw [HL.out]; exact hl)] at hX; simpa using hX] at hr
      obtain ⟨hIr, hIc⟩ := hI X (List.mem_of_getElem? hX)
      have hup : (L.take (i + 1)).all (fun p => !p.t.isEmpty) = !X.t.isEmpty := by
        rw [List.take_add_one, hX, List.all_append, hok]
        simp
      have hbad : X.t.isEmpty = true → wellsOk L = false := fun he => List.all_eq_false.2 ⟨X, List.mem_of_getElem? hX, by simp [he]⟩
      have eT : ((strB X.t).toList == []) = X.t.isEmpty := by
        rw [Go.Lib.toList_data]
        show (X.t == []) = _
        cases X.t <;> rfl
      obtain ⟨N, R, C⟩ := X
      obtain ⟨x0, x1, x2⟩ := hr
      simp only at x0 x1 x2 hIr hIc
      have cT := fun w => wtext_any N R C hIr hIc w
      rw [show wellT N R C = Wp.t ⟨N, R, C⟩ from rfl] at cT
      generalize Wp.t ⟨N, R, C⟩ = TT at *
      obtain ⟨ts, hts⟩ : ∃ ts, strB TT = ts := ⟨_, rfl⟩
      rw [hts] at eT cT
      generalize TT.isEmpty = be at *
      have qb : B wi (wi.alloc (.cells #[.string N, .int .i64 R, .int .i64 C] 36)) := (B.refl _).alloc _ _
      cases be
      · have HN := Lib.hid (And.intro hup (And.intro hl (q.trans qb)))
        clear hup hbad hX e1 hok hl hi q qb hts
        go_wp2_with fail
        refine (Calls.mono (cT _) ?_)
        rintro _ w2 ⟨rfl, q2⟩
        replace HN := Lib.hid (And.intro HN.out.1 (And.intro HN.out.2.1 (HN.out.2.2.trans q2)))
        clear cT q2
        go_wp2
        go_roundw
        case rel => exact ⟨i + 1, by have := HN.out.2.1; omega, by go_num, HN.out.1, HN.out.2.2⟩
        case measure => have := HN.out.2.1; simp [intOf]; omega
      · have HN := Lib.hid (And.intro (hbad rfl) (q.trans qb))
        clear hup hbad hX e1 hok hl hi q qb hts
        go_wp2_with fail
        refine (Calls.mono (cT _) ?_)
        rintro _ w2 ⟨rfl, q2⟩
        replace HN := Lib.hid (And.intro HN.out.1 (HN.out.2.trans q2))
        clear cT q2
        go_wp2
        go_ret
        exact ⟨by rw [HN.out.1, Bool.and_false]; rfl, HN.out.2⟩
    · have hlB : decide ((i : Int) < (ln : Int)) = false := decide_eq_false (by omega)
      have hlN : decide (i < ln) = false := decide_eq_false hl
      rw [List.take_of_length_le (by have := HL.out; omega)] at hok
      have HZ := Lib.hid (And.intro (show wellsOk L = true from hok) q)
      clear hok hl hi q
      go_wp2
      go_ret
      exact ⟨by rw [HZ.out.1, HR.out]; rfl, HZ.out.2⟩
theorem sayK_0 (n : ByteArray) (L : List Wp) (v m : Int) : stepOk ⟨0, n, L, v, m⟩ = (nameS n && (((L.length : Int) == 0) && ((v == 0) && (m == 0)))) := by
  show (wellsOk L && stepK ⟨0, n, L, v, m⟩) = _
  rw [stepK_0]
  cases L with
  | nil =>
    show (true && (nameS n && true && decide (v = 0) && decide (m = 0))) = (nameS n && (true && (decide (v = 0) && decide (m = 0))))
    simp only [Bool.true_and, Bool.and_true, Bool.and_assoc]
  | cons p L =>
    rw [show decide ((p :: L).length = 0) = false from rfl, show (((p :: L).length : Int) == 0) = false by rw [beq_eq_false_iff_ne, List.length_cons]; omega]
    simp
theorem sayK_1 (n : ByteArray) (L : List Wp) (v m : Int) : stepOk ⟨1, n, L, v, m⟩ = ((n.toList == []) && (((L.length : Int) == 0) && ((v == 0) && (decide ((0 : Int) ≤ m) && decide (m ≤ (1 : Int)))))) := by
  show (wellsOk L && stepK ⟨1, n, L, v, m⟩) = _
  rw [stepK_1]
  have e9 : (decide (m = 0) || decide (m = 1)) = (decide ((0 : Int) ≤ m) && decide (m ≤ (1 : Int))) := by
    by_cases h : m = 0
    · subst h; rfl
    by_cases h1 : m = 1
    · subst h1; rfl
    rw [decide_eq_false h, decide_eq_false h1]
    by_cases h2 : (0 : Int) ≤ m
    · rw [decide_eq_false (show ¬ m ≤ 1 by omega), Bool.and_false]; rfl
    · rw [decide_eq_false h2]; rfl
  rw [e9]
  cases L with
  | nil =>
    show (true && ((n.toList == []) && true && decide (v = 0) && _)) = ((n.toList == []) && (true && (decide (v = 0) && _)))
    simp only [Bool.true_and, Bool.and_true, Bool.and_assoc]
  | cons p L =>
    rw [show decide ((p :: L).length = 0) = false from rfl, show (((p :: L).length : Int) == 0) = false by rw [beq_eq_false_iff_ne, List.length_cons]; omega]
    simp
theorem sayK_2 (n : ByteArray) (L : List Wp) (v m : Int) : stepOk ⟨2, n, L, v, m⟩ = ((n.toList == []) && ((decide (2 ≤ L.length) && decide (L.length ≤ 2) && wellsOk L) && ((decide ((1 : Int) ≤ v) && decide (v ≤ (20000000 : Int))) && (m == 0)))) := by
  show (wellsOk L && stepK ⟨2, n, L, v, m⟩) = _
  rw [stepK_2]
  have em : (m == 0) = decide (m = 0) := rfl
  unfold inB
  cases wellsOk L <;> cases (n.toList == []) <;> cases decide ((1 : Int) ≤ v) <;> cases decide (v ≤ (20000000 : Int)) <;> rw [em] <;> cases decide (m = 0) <;> by_cases h1 : 2 ≤ L.length <;> by_cases h2 : L.length ≤ 2 <;> simp [h1, h2] <;> omega
theorem sayK_3 (n : ByteArray) (L : List Wp) (v m : Int) : stepOk ⟨3, n, L, v, m⟩ = ((n.toList == []) && ((decide (2 ≤ L.length) && decide (L.length ≤ 96) && wellsOk L) && ((decide ((1 : Int) ≤ v) && decide (v ≤ (20000000 : Int))) && (m == 0)))) := by
  show (wellsOk L && stepK ⟨3, n, L, v, m⟩) = _
  rw [stepK_3]
  have em : (m == 0) = decide (m = 0) := rfl
  unfold inB
  cases wellsOk L <;> cases (n.toList == []) <;> cases decide ((1 : Int) ≤ v) <;> cases decide (v ≤ (20000000 : Int)) <;> rw [em] <;> cases decide (m = 0) <;> by_cases h1 : 2 ≤ L.length <;> by_cases h2 : L.length ≤ 96 <;> simp [h1, h2] <;> omega
theorem sayK_4 (n : ByteArray) (L : List Wp) (v m : Int) : stepOk ⟨4, n, L, v, m⟩ = ((n.toList == []) && ((decide (2 ≤ L.length) && decide (L.length ≤ 96) && wellsOk L) && ((decide ((1 : Int) ≤ v) && decide (v ≤ (20000000 : Int))) && (m == 0)))) := by
  show (wellsOk L && stepK ⟨4, n, L, v, m⟩) = _
  rw [stepK_4]
  have em : (m == 0) = decide (m = 0) := rfl
  unfold inB
  cases wellsOk L <;> cases (n.toList == []) <;> cases decide ((1 : Int) ≤ v) <;> cases decide (v ≤ (20000000 : Int)) <;> rw [em] <;> cases decide (m = 0) <;> by_cases h1 : 2 ≤ L.length <;> by_cases h2 : L.length ≤ 96 <;> simp [h1, h2] <;> omega
theorem sayK_5 (n : ByteArray) (L : List Wp) (v m : Int) : stepOk ⟨5, n, L, v, m⟩ = ((n.toList == []) && ((decide (1 ≤ L.length) && decide (L.length ≤ 1) && wellsOk L) && ((decide ((1 : Int) ≤ v) && decide (v ≤ (20000000 : Int))) && (decide ((1 : Int) ≤ m) && decide (m ≤ (20 : Int)))))) := by
  show (wellsOk L && stepK ⟨5, n, L, v, m⟩) = _
  rw [stepK_5]
  unfold inB
  cases wellsOk L <;> cases (n.toList == []) <;> cases decide ((1 : Int) ≤ v) <;> cases decide (v ≤ (20000000 : Int)) <;> cases decide ((1 : Int) ≤ m) <;> cases decide (m ≤ (20 : Int)) <;> by_cases h1 : 1 ≤ L.length <;> by_cases h2 : L.length ≤ 1 <;> simp [h1, h2] <;> omega
theorem sayK_6 (n : ByteArray) (L : List Wp) (v m : Int) : stepOk ⟨6, n, L, v, m⟩ = ((n.toList == []) && ((decide (2 ≤ L.length) && decide (L.length ≤ 96) && wellsOk L) && ((decide ((1 : Int) ≤ v) && decide (v ≤ (20000000 : Int))) && (m == 0)))) := by
  show (wellsOk L && stepK ⟨6, n, L, v, m⟩) = _
  rw [stepK_6]
  have em : (m == 0) = decide (m = 0) := rfl
  unfold inB
  cases wellsOk L <;> cases (n.toList == []) <;> cases decide ((1 : Int) ≤ v) <;> cases decide (v ≤ (20000000 : Int)) <;> rw [em] <;> cases decide (m = 0) <;> by_cases h1 : 2 ≤ L.length <;> by_cases h2 : L.length ≤ 96 <;> simp [h1, h2] <;> omega
set_option maxRecDepth 100000 in
set_option maxHeartbeats 4000000 in
theorem psayable_any (k : Int) (n : ByteArray) (L : List Wp) (v m : Int) (wsv : Value) (w : World) (h : IsWps w wsv L) (hI : WpsI L) : Calls Tryd.prog 26 #[.agg #[.int .i64 k, .string n, wsv, .int .i64 v, .int .i64 m]] w fun e w' => e = .returned (.bool (stepOk ⟨k, n, L, v, m⟩)) ∧ B w w' := by
  obtain ⟨so, sc, rfl⟩ := h.form
  by_cases hk : k = 0 ∨ k = 1 ∨ k = 2 ∨ k = 3 ∨ k = 4 ∨ k = 5 ∨ k = 6
  · rcases hk with rfl | rfl | rfl | rfl | rfl | rfl | rfl
    · have hOK := sayK_0 n L v m
      have c0 := fun w => name_any n w
      obtain ⟨wl, hwl⟩ : ∃ wl, L.length = wl := ⟨_, rfl⟩
      rw [hwl]
      have q0 : B w (w.alloc (.cells #[.int .i64 0, .string n, .slice so wl sc, .int .i64 v, .int .i64 m] 27)) := (B.refl _).alloc _ _
      have oS := obj_new w (.cells #[.int .i64 0, .string n, .slice so wl sc, .int .i64 v, .int .i64 m] 27)
      have y0 := obj_cell oS 0
      have y1 := obj_cell oS 1
      have y2 := obj_cell oS 2
      have y3 := obj_cell oS 3
      have y4 := obj_cell oS 4
      simp only [List.getElem?_toArray, List.getElem?_cons_zero, List.getElem?_cons_succ] at y0 y1 y2 y3 y4
      rw [hwl] at hOK
      cases h0 : nameS n
      · have HR : Hid (stepOk ⟨0, n, L, v, m⟩ = false) := Lib.hid (by rw [hOK, h0]; rfl)
        rw [h0] at c0
        clear hOK hwl h hI h0
        go_enter Tryd.func26, Tryd.ntmps26
        go_wp2_with fail
        generalize w.alloc (.cells #[.int .i64 0, .string n, .slice so wl sc, .int .i64 v, .int .i64 m] 27) = W0 at *
        refine (Calls.mono (c0 _) ?_)
        rintro _ w5 ⟨rfl, qq0⟩
        replace y0 := qq0.keep y0
        replace y1 := qq0.keep y1
        replace y2 := qq0.keep y2
        replace y3 := qq0.keep y3
        replace y4 := qq0.keep y4
        have q20 := q0.trans qq0
        clear c0 qq0
        have HZ := Lib.hid q20
        clear q20
        go_wp2
        go_ret
        exact ⟨by rw [HR.out]; rfl, HZ.out⟩
      · cases h1 : ((wl : Int) == 0)
        · have HR : Hid (stepOk ⟨0, n, L, v, m⟩ = false) := Lib.hid (by rw [hOK, h0, h1]; rfl)
          rw [h0] at c0
          clear hOK hwl h hI h0
          go_enter Tryd.func26, Tryd.ntmps26
          go_wp2_with fail
          generalize w.alloc (.cells #[.int .i64 0, .string n, .slice so wl sc, .int .i64 v, .int .i64 m] 27) = W0 at *
          refine (Calls.mono (c0 _) ?_)
          rintro _ w5 ⟨rfl, qq0⟩
          replace y0 := qq0.keep y0
          replace y1 := qq0.keep y1
          replace y2 := qq0.keep y2
          replace y3 := qq0.keep y3
          replace y4 := qq0.keep y4
          have q20 := q0.trans qq0
          clear c0 qq0
          have HZ := Lib.hid q20
          clear q20
          go_wp2
          go_ret
          exact ⟨by rw [HR.out]; rfl, HZ.out⟩
        · cases h2 : (v == 0)
          · have HR : Hid (stepOk ⟨0, n, L, v, m⟩ = false) := Lib.hid (by rw [hOK, h0, h1, h2]; rfl)
            rw [h0] at c0
            clear hOK hwl h hI h0
            go_enter Tryd.func26, Tryd.ntmps26
            go_wp2_with fail
            generalize w.alloc (.cells #[.int .i64 0, .string n, .slice so wl sc, .int .i64 v, .int .i64 m] 27) = W0 at *
            refine (Calls.mono (c0 _) ?_)
            rintro _ w5 ⟨rfl, qq0⟩
            replace y0 := qq0.keep y0
            replace y1 := qq0.keep y1
            replace y2 := qq0.keep y2
            replace y3 := qq0.keep y3
            replace y4 := qq0.keep y4
            have q20 := q0.trans qq0
            clear c0 qq0
            have HZ := Lib.hid q20
            clear q20
            go_wp2
            go_ret
            exact ⟨by rw [HR.out]; rfl, HZ.out⟩
          · cases h3 : (m == 0)
            · have HR : Hid (stepOk ⟨0, n, L, v, m⟩ = false) := Lib.hid (by rw [hOK, h0, h1, h2, h3]; rfl)
              rw [h0] at c0
              clear hOK hwl h hI h0
              go_enter Tryd.func26, Tryd.ntmps26
              go_wp2_with fail
              generalize w.alloc (.cells #[.int .i64 0, .string n, .slice so wl sc, .int .i64 v, .int .i64 m] 27) = W0 at *
              refine (Calls.mono (c0 _) ?_)
              rintro _ w5 ⟨rfl, qq0⟩
              replace y0 := qq0.keep y0
              replace y1 := qq0.keep y1
              replace y2 := qq0.keep y2
              replace y3 := qq0.keep y3
              replace y4 := qq0.keep y4
              have q20 := q0.trans qq0
              clear c0 qq0
              have HZ := Lib.hid q20
              clear q20
              go_wp2
              go_ret
              exact ⟨by rw [HR.out]; rfl, HZ.out⟩
            · have HR : Hid (stepOk ⟨0, n, L, v, m⟩ = true) := Lib.hid (by rw [hOK, h0, h1, h2, h3]; rfl)
              rw [h0] at c0
              clear hOK hwl h hI h0
              go_enter Tryd.func26, Tryd.ntmps26
              go_wp2_with fail
              generalize w.alloc (.cells #[.int .i64 0, .string n, .slice so wl sc, .int .i64 v, .int .i64 m] 27) = W0 at *
              refine (Calls.mono (c0 _) ?_)
              rintro _ w5 ⟨rfl, qq0⟩
              replace y0 := qq0.keep y0
              replace y1 := qq0.keep y1
              replace y2 := qq0.keep y2
              replace y3 := qq0.keep y3
              replace y4 := qq0.keep y4
              have q20 := q0.trans qq0
              clear c0 qq0
              have HZ := Lib.hid q20
              clear q20
              go_wp2
              go_ret
              exact ⟨by rw [HR.out]; rfl, HZ.out⟩
    · have hOK := sayK_1 n L v m
      have c3 := fun w => pwithin_any m 0 1 w
      obtain ⟨wl, hwl⟩ : ∃ wl, L.length = wl := ⟨_, rfl⟩
      rw [hwl]
      have q0 : B w (w.alloc (.cells #[.int .i64 1, .string n, .slice so wl sc, .int .i64 v, .int .i64 m] 27)) := (B.refl _).alloc _ _
      have oS := obj_new w (.cells #[.int .i64 1, .string n, .slice so wl sc, .int .i64 v, .int .i64 m] 27)
      have y0 := obj_cell oS 0
      have y1 := obj_cell oS 1
      have y2 := obj_cell oS 2
      have y3 := obj_cell oS 3
      have y4 := obj_cell oS 4
      simp only [List.getElem?_toArray, List.getElem?_cons_zero, List.getElem?_cons_succ] at y0 y1 y2 y3 y4
      rw [hwl] at hOK
      cases h0 : (n.toList == [])
      · have HR : Hid (stepOk ⟨1, n, L, v, m⟩ = false) := Lib.hid (by rw [hOK, h0]; rfl)
        clear hOK c3 hwl h hI
        go_enter Tryd.func26, Tryd.ntmps26
        go_wp2
        go_ret
        exact ⟨by rw [HR.out]; rfl, (B.refl _).alloc _ _⟩
      · cases h1 : ((wl : Int) == 0)
        · have HR : Hid (stepOk ⟨1, n, L, v, m⟩ = false) := Lib.hid (by rw [hOK, h0, h1]; rfl)
          clear hOK c3 hwl h hI
          go_enter Tryd.func26, Tryd.ntmps26
          go_wp2
          go_ret
          exact ⟨by rw [HR.out]; rfl, (B.refl _).alloc _ _⟩
        · cases h2 : (v == 0)
          · have HR : Hid (stepOk ⟨1, n, L, v, m⟩ = false) := Lib.hid (by rw [hOK, h0, h1, h2]; rfl)
            clear hOK c3 hwl h hI
            go_enter Tryd.func26, Tryd.ntmps26
            go_wp2
            go_ret
            exact ⟨by rw [HR.out]; rfl, (B.refl _).alloc _ _⟩
          · cases h3 : (decide ((0 : Int) ≤ m) && decide (m ≤ (1 : Int)))
            · have HR : Hid (stepOk ⟨1, n, L, v, m⟩ = false) := Lib.hid (by rw [hOK, h0, h1, h2, h3]; rfl)
              rw [h3] at c3
              clear hOK hwl h hI h3
              go_enter Tryd.func26, Tryd.ntmps26
              go_wp2_with fail
              generalize w.alloc (.cells #[.int .i64 1, .string n, .slice so wl sc, .int .i64 v, .int .i64 m] 27) = W0 at *
              refine (Calls.mono (c3 _) ?_)
              rintro _ _ ⟨rfl, rfl⟩
              clear c3
              have HZ := Lib.hid q0
              clear q0
              go_wp2
              go_ret
              exact ⟨by rw [HR.out]; rfl, HZ.out⟩
            · have HR : Hid (stepOk ⟨1, n, L, v, m⟩ = true) := Lib.hid (by rw [hOK, h0, h1, h2, h3]; rfl)
              rw [h3] at c3
              clear hOK hwl h hI h3
              go_enter Tryd.func26, Tryd.ntmps26
              go_wp2_with fail
              generalize w.alloc (.cells #[.int .i64 1, .string n, .slice so wl sc, .int .i64 v, .int .i64 m] 27) = W0 at *
              refine (Calls.mono (c3 _) ?_)
              rintro _ _ ⟨rfl, rfl⟩
              clear c3
              have HZ := Lib.hid q0
              clear q0
              go_wp2
              go_ret
              exact ⟨by rw [HR.out]; rfl, HZ.out⟩
    · have hOK := sayK_2 n L v m
      have c1 := fun w' (q : B w w') => pwritten_any _ L 2 2 w' (h.keepB q) hI
      have c2 := fun w => pwithin_any v 1 20000000 w
      obtain ⟨wl, hwl⟩ : ∃ wl, L.length = wl := ⟨_, rfl⟩
      rw [hwl]
      have q0 : B w (w.alloc (.cells #[.int .i64 2, .string n, .slice so wl sc, .int .i64 v, .int .i64 m] 27)) := (B.refl _).alloc _ _
      have oS := obj_new w (.cells #[.int .i64 2, .string n, .slice so wl sc, .int .i64 v, .int .i64 m] 27)
      have y0 := obj_cell oS 0
      have y1 := obj_cell oS 1
      have y2 := obj_cell oS 2
      have y3 := obj_cell oS 3
      have y4 := obj_cell oS 4
      simp only [List.getElem?_toArray, List.getElem?_cons_zero, List.getElem?_cons_succ] at y0 y1 y2 y3 y4
      rw [hwl] at hOK c1
      cases h0 : (n.toList == [])
      · have HR : Hid (stepOk ⟨2, n, L, v, m⟩ = false) := Lib.hid (by rw [hOK, h0]; rfl)
        clear hOK c1 c2 hwl h hI
        go_enter Tryd.func26, Tryd.ntmps26
        go_wp2
        go_ret
        exact ⟨by rw [HR.out]; rfl, (B.refl _).alloc _ _⟩
      · cases h1 : (decide (2 ≤ wl) && decide (wl ≤ 2) && wellsOk L)
        · have HR : Hid (stepOk ⟨2, n, L, v, m⟩ = false) := Lib.hid (by rw [hOK, h0, h1]; rfl)
          rw [h1] at c1
          clear hOK c2 hwl h hI h1
          go_enter Tryd.func26, Tryd.ntmps26
          go_wp2_with fail
          generalize w.alloc (.cells #[.int .i64 2, .string n, .slice so wl sc, .int .i64 v, .int .i64 m] 27) = W0 at *
          refine (Calls.mono (c1 _ q0) ?_)
          rintro _ w6 ⟨rfl, qq1⟩
          replace y0 := qq1.keep y0
          replace y1 := qq1.keep y1
          replace y2 := qq1.keep y2
          replace y3 := qq1.keep y3
          replace y4 := qq1.keep y4
          have q21 := q0.trans qq1
          clear c1 qq1
          have HZ := Lib.hid q21
          clear q21
          go_wp2
          go_ret
          exact ⟨by rw [HR.out]; rfl, HZ.out⟩
        · cases h2 : (decide ((1 : Int) ≤ v) && decide (v ≤ (20000000 : Int)))
          · have HR : Hid (stepOk ⟨2, n, L, v, m⟩ = false) := Lib.hid (by rw [hOK, h0, h1, h2]; rfl)
            rw [h1] at c1
            rw [h2] at c2
            clear hOK hwl h hI h1 h2
            go_enter Tryd.func26, Tryd.ntmps26
            go_wp2_with fail
            generalize w.alloc (.cells #[.int .i64 2, .string n, .slice so wl sc, .int .i64 v, .int .i64 m] 27) = W0 at *
            refine (Calls.mono (c1 _ q0) ?_)
            rintro _ w6 ⟨rfl, qq1⟩
            replace y0 := qq1.keep y0
            replace y1 := qq1.keep y1
            replace y2 := qq1.keep y2
            replace y3 := qq1.keep y3
            replace y4 := qq1.keep y4
            have q21 := q0.trans qq1
            clear c1 qq1
            go_wp2_with fail
            refine (Calls.mono (c2 _) ?_)
            rintro _ _ ⟨rfl, rfl⟩
            clear c2
            have HZ := Lib.hid q21
            clear q21
            go_wp2
            go_ret
            exact ⟨by rw [HR.out]; rfl, HZ.out⟩
          · cases h3 : (m == 0)
            · have HR : Hid (stepOk ⟨2, n, L, v, m⟩ = false) := Lib.hid (by rw [hOK, h0, h1, h2, h3]; rfl)
              rw [h1] at c1
              rw [h2] at c2
              clear hOK hwl h hI h1 h2
              go_enter Tryd.func26, Tryd.ntmps26
              go_wp2_with fail
              generalize w.alloc (.cells #[.int .i64 2, .string n, .slice so wl sc, .int .i64 v, .int .i64 m] 27) = W0 at *
              refine (Calls.mono (c1 _ q0) ?_)
              rintro _ w6 ⟨rfl, qq1⟩
              replace y0 := qq1.keep y0
              replace y1 := qq1.keep y1
              replace y2 := qq1.keep y2
              replace y3 := qq1.keep y3
              replace y4 := qq1.keep y4
              have q21 := q0.trans qq1
              clear c1 qq1
              go_wp2_with fail
              refine (Calls.mono (c2 _) ?_)
              rintro _ _ ⟨rfl, rfl⟩
              clear c2
              have HZ := Lib.hid q21
              clear q21
              go_wp2
              go_ret
              exact ⟨by rw [HR.out]; rfl, HZ.out⟩
            · have HR : Hid (stepOk ⟨2, n, L, v, m⟩ = true) := Lib.hid (by rw [hOK, h0, h1, h2, h3]; rfl)
              rw [h1] at c1
              rw [h2] at c2
              clear hOK hwl h hI h1 h2
              go_enter Tryd.func26, Tryd.ntmps26
              go_wp2_with fail
              generalize w.alloc (.cells #[.int .i64 2, .string n, .slice so wl sc, .int .i64 v, .int .i64 m] 27) = W0 at *
              refine (Calls.mono (c1 _ q0) ?_)
              rintro _ w6 ⟨rfl, qq1⟩
              replace y0 := qq1.keep y0
              replace y1 := qq1.keep y1
              replace y2 := qq1.keep y2
              replace y3 := qq1.keep y3
              replace y4 := qq1.keep y4
              have q21 := q0.trans qq1
              clear c1 qq1
              go_wp2_with fail
              refine (Calls.mono (c2 _) ?_)
              rintro _ _ ⟨rfl, rfl⟩
              clear c2
              have HZ := Lib.hid q21
              clear q21
              go_wp2
              go_ret
              exact ⟨by rw [HR.out]; rfl, HZ.out⟩
    · have hOK := sayK_3 n L v m
      have c1 := fun w' (q : B w w') => pwritten_any _ L 2 96 w' (h.keepB q) hI
      have c2 := fun w => pwithin_any v 1 20000000 w
      obtain ⟨wl, hwl⟩ : ∃ wl, L.length = wl := ⟨_, rfl⟩
      rw [hwl]
      have q0 : B w (w.alloc (.cells #[.int .i64 3, .string n, .slice so wl sc, .int .i64 v, .int .i64 m] 27)) := (B.refl _).alloc _ _
      have oS := obj_new w (.cells #[.int .i64 3, .string n, .slice so wl sc, .int .i64 v, .int .i64 m] 27)
      have y0 := obj_cell oS 0
      have y1 := obj_cell oS 1
      have y2 := obj_cell oS 2
      have y3 := obj_cell oS 3
      have y4 := obj_cell oS 4
      simp only [List.getElem?_toArray, List.getElem?_cons_zero, List.getElem?_cons_succ] at y0 y1 y2 y3 y4
      rw [hwl] at hOK c1
      cases h0 : (n.toList == [])
      · have HR : Hid (stepOk ⟨3, n, L, v, m⟩ = false) := Lib.hid (by rw [hOK, h0]; rfl)
        clear hOK c1 c2 hwl h hI
        go_enter Tryd.func26, Tryd.ntmps26
        go_wp2
        go_ret
        exact ⟨by rw [HR.out]; rfl, (B.refl _).alloc _ _⟩
      · cases h1 : (decide (2 ≤ wl) && decide (wl ≤ 96) && wellsOk L)
        · have HR : Hid (stepOk ⟨3, n, L, v, m⟩ = false) := Lib.hid (by rw [hOK, h0, h1]; rfl)
          rw [h1] at c1
          clear hOK c2 hwl h hI h1
          go_enter Tryd.func26, Tryd.ntmps26
          go_wp2_with fail
          generalize w.alloc (.cells #[.int .i64 3, .string n, .slice so wl sc, .int .i64 v, .int .i64 m] 27) = W0 at *
          refine (Calls.mono (c1 _ q0) ?_)
          rintro _ w6 ⟨rfl, qq1⟩
          replace y0 := qq1.keep y0
          replace y1 := qq1.keep y1
          replace y2 := qq1.keep y2
          replace y3 := qq1.keep y3
          replace y4 := qq1.keep y4
          have q21 := q0.trans qq1
          clear c1 qq1
          have HZ := Lib.hid q21
          clear q21
          go_wp2
          go_ret
          exact ⟨by rw [HR.out]; rfl, HZ.out⟩
        · cases h2 : (decide ((1 : Int) ≤ v) && decide (v ≤ (20000000 : Int)))
          · have HR : Hid (stepOk ⟨3, n, L, v, m⟩ = false) := Lib.hid (by rw [hOK, h0, h1, h2]; rfl)
            rw [h1] at c1
            rw [h2] at c2
            clear hOK hwl h hI h1 h2
            go_enter Tryd.func26, Tryd.ntmps26
            go_wp2_with fail
            generalize w.alloc (.cells #[.int .i64 3, .string n, .slice so wl sc, .int .i64 v, .int .i64 m] 27) = W0 at *
            refine (Calls.mono (c1 _ q0) ?_)
            rintro _ w6 ⟨rfl, qq1⟩
            replace y0 := qq1.keep y0
            replace y1 := qq1.keep y1
            replace y2 := qq1.keep y2
            replace y3 := qq1.keep y3
            replace y4 := qq1.keep y4
            have q21 := q0.trans qq1
            clear c1 qq1
            go_wp2_with fail
            refine (Calls.mono (c2 _) ?_)
            rintro _ _ ⟨rfl, rfl⟩
            clear c2
            have HZ := Lib.hid q21
            clear q21
            go_wp2
            go_ret
            exact ⟨by rw [HR.out]; rfl, HZ.out⟩
          · cases h3 : (m == 0)
            · have HR : Hid (stepOk ⟨3, n, L, v, m⟩ = false) := Lib.hid (by rw [hOK, h0, h1, h2, h3]; rfl)
              rw [h1] at c1
              rw [h2] at c2
              clear hOK hwl h hI h1 h2
              go_enter Tryd.func26, Tryd.ntmps26
              go_wp2_with fail
              generalize w.alloc (.cells #[.int .i64 3, .string n, .slice so wl sc, .int .i64 v, .int .i64 m] 27) = W0 at *
              refine (Calls.mono (c1 _ q0) ?_)
              rintro _ w6 ⟨rfl, qq1⟩
              replace y0 := qq1.keep y0
              replace y1 := qq1.keep y1
              replace y2 := qq1.keep y2
              replace y3 := qq1.keep y3
              replace y4 := qq1.keep y4
              have q21 := q0.trans qq1
              clear c1 qq1
              go_wp2_with fail
              refine (Calls.mono (c2 _) ?_)
              rintro _ _ ⟨rfl, rfl⟩
              clear c2
              have HZ := Lib.hid q21
              clear q21
              go_wp2
              go_ret
              exact ⟨by rw [HR.out]; rfl, HZ.out⟩
            · have HR : Hid (stepOk ⟨3, n, L, v, m⟩ = true) := Lib.hid (by rw [hOK, h0, h1, h2, h3]; rfl)
              rw [h1] at c1
              rw [h2] at c2
              clear hOK hwl h hI h1 h2
              go_enter Tryd.func26, Tryd.ntmps26
              go_wp2_with fail
              generalize w.alloc (.cells #[.int .i64 3, .string n, .slice so wl sc, .int .i64 v, .int .i64 m] 27) = W0 at *
              refine (Calls.mono (c1 _ q0) ?_)
              rintro _ w6 ⟨rfl, qq1⟩
              replace y0 := qq1.keep y0
              replace y1 := qq1.keep y1
              replace y2 := qq1.keep y2
              replace y3 := qq1.keep y3
              replace y4 := qq1.keep y4
              have q21 := q0.trans qq1
              clear c1 qq1
              go_wp2_with fail
              refine (Calls.mono (c2 _) ?_)
              rintro _ _ ⟨rfl, rfl⟩
              clear c2
              have HZ := Lib.hid q21
              clear q21
              go_wp2
              go_ret
              exact ⟨by rw [HR.out]; rfl, HZ.out⟩
    · have hOK := sayK_4 n L v m
      have c1 := fun w' (q : B w w') => pwritten_any _ L 2 96 w' (h.keepB q) hI
      have c2 := fun w => pwithin_any v 1 20000000 w
      obtain ⟨wl, hwl⟩ : ∃ wl, L.length = wl := ⟨_, rfl⟩
      rw [hwl]
      have q0 : B w (w.alloc (.cells #[.int .i64 4, .string n, .slice so wl sc, .int .i64 v, .int .i64 m] 27)) := (B.refl _).alloc _ _
      have oS := obj_new w (.cells #[.int .i64 4, .string n, .slice so wl sc, .int .i64 v, .int .i64 m] 27)
      have y0 := obj_cell oS 0
      have y1 := obj_cell oS 1
      have y2 := obj_cell oS 2
      have y3 := obj_cell oS 3
      have y4 := obj_cell oS 4
      simp only [List.getElem?_toArray, List.getElem?_cons_zero, List.getElem?_cons_succ] at y0 y1 y2 y3 y4
      rw [hwl] at hOK c1
      cases h0 : (n.toList == [])
      · have HR : Hid (stepOk ⟨4, n, L, v, m⟩ = false) := Lib.hid (by rw [hOK, h0]; rfl)
        clear hOK c1 c2 hwl h hI
        go_enter Tryd.func26, Tryd.ntmps26
        go_wp2
        go_ret
        exact ⟨by rw [HR.out]; rfl, (B.refl _).alloc _ _⟩
      · cases h1 : (decide (2 ≤ wl) && decide (wl ≤ 96) && wellsOk L)
        · have HR : Hid (stepOk ⟨4, n, L, v, m⟩ = false) := Lib.hid (by rw [hOK, h0, h1]; rfl)
          rw [h1] at c1
          clear hOK c2 hwl h hI h1
          go_enter Tryd.func26, Tryd.ntmps26
          go_wp2_with fail
          generalize w.alloc (.cells #[.int .i64 4, .string n, .slice so wl sc, .int .i64 v, .int .i64 m] 27) = W0 at *
          refine (Calls.mono (c1 _ q0) ?_)
          rintro _ w6 ⟨rfl, qq1⟩
          replace y0 := qq1.keep y0
          replace y1 := qq1.keep y1
          replace y2 := qq1.keep y2
          replace y3 := qq1.keep y3
          replace y4 := qq1.keep y4
          have q21 := q0.trans qq1
          clear c1 qq1
          have HZ := Lib.hid q21
          clear q21
          go_wp2
          go_ret
          exact ⟨by rw [HR.out]; rfl, HZ.out⟩
        · cases h2 : (decide ((1 : Int) ≤ v) && decide (v ≤ (20000000 : Int)))
          · have HR : Hid (stepOk ⟨4, n, L, v, m⟩ = false) := Lib.hid (by rw [hOK, h0, h1, h2]; rfl)
            rw [h1] at c1
            rw [h2] at c2
            clear hOK hwl h hI h1 h2
            go_enter Tryd.func26, Tryd.ntmps26
            go_wp2_with fail
            generalize w.alloc (.cells #[.int .i64 4, .string n, .slice so wl sc, .int .i64 v, .int .i64 m] 27) = W0 at *
            refine (Calls.mono (c1 _ q0) ?_)
            rintro _ w6 ⟨rfl, qq1⟩
            replace y0 := qq1.keep y0
            replace y1 := qq1.keep y1
            replace y2 := qq1.keep y2
            replace y3 := qq1.keep y3
            replace y4 := qq1.keep y4
            have q21 := q0.trans qq1
            clear c1 qq1
            go_wp2_with fail
            refine (Calls.mono (c2 _) ?_)
            rintro _ _ ⟨rfl, rfl⟩
            clear c2
            have HZ := Lib.hid q21
            clear q21
            go_wp2
            go_ret
            exact ⟨by rw [HR.out]; rfl, HZ.out⟩
          · cases h3 : (m == 0)
            · have HR : Hid (stepOk ⟨4, n, L, v, m⟩ = false) := Lib.hid (by rw [hOK, h0, h1, h2, h3]; rfl)
              rw [h1] at c1
              rw [h2] at c2
              clear hOK hwl h hI h1 h2
              go_enter Tryd.func26, Tryd.ntmps26
              go_wp2_with fail
              generalize w.alloc (.cells #[.int .i64 4, .string n, .slice so wl sc, .int .i64 v, .int .i64 m] 27) = W0 at *
              refine (Calls.mono (c1 _ q0) ?_)
              rintro _ w6 ⟨rfl, qq1⟩
              replace y0 := qq1.keep y0
              replace y1 := qq1.keep y1
              replace y2 := qq1.keep y2
              replace y3 := qq1.keep y3
              replace y4 := qq1.keep y4
              have q21 := q0.trans qq1
              clear c1 qq1
              go_wp2_with fail
              refine (Calls.mono (c2 _) ?_)
              rintro _ _ ⟨rfl, rfl⟩
              clear c2
              have HZ := Lib.hid q21
              clear q21
              go_wp2
              go_ret
              exact ⟨by rw [HR.out]; rfl, HZ.out⟩
            · have HR : Hid (stepOk ⟨4, n, L, v, m⟩ = true) := Lib.hid (by rw [hOK, h0, h1, h2, h3]; rfl)
              rw [h1] at c1
              rw [h2] at c2
              clear hOK hwl h hI h1 h2
              go_enter Tryd.func26, Tryd.ntmps26
              go_wp2_with fail
              generalize w.alloc (.cells #[.int .i64 4, .string n, .slice so wl sc, .int .i64 v, .int .i64 m] 27) = W0 at *
              refine (Calls.mono (c1 _ q0) ?_)
              rintro _ w6 ⟨rfl, qq1⟩
              replace y0 := qq1.keep y0
              replace y1 := qq1.keep y1
              replace y2 := qq1.keep y2
              replace y3 := qq1.keep y3
              replace y4 := qq1.keep y4
              have q21 := q0.trans qq1
              clear c1 qq1
              go_wp2_with fail
              refine (Calls.mono (c2 _) ?_)
              rintro _ _ ⟨rfl, rfl⟩
              clear c2
              have HZ := Lib.hid q21
              clear q21
              go_wp2
              go_ret
              exact ⟨by rw [HR.out]; rfl, HZ.out⟩
    · have hOK := sayK_5 n L v m
      have c1 := fun w' (q : B w w') => pwritten_any _ L 1 1 w' (h.keepB q) hI
      have c2 := fun w => pwithin_any v 1 20000000 w
      have c3 := fun w => pwithin_any m 1 20 w
      obtain ⟨wl, hwl⟩ : ∃ wl, L.length = wl := ⟨_, rfl⟩
      rw [hwl]
      have q0 : B w (w.alloc (.cells #[.int .i64 5, .string n, .slice so wl sc, .int .i64 v, .int .i64 m] 27)) := (B.refl _).alloc _ _
      have oS := obj_new w (.cells #[.int .i64 5, .string n, .slice so wl sc, .int .i64 v, .int .i64 m] 27)
      have y0 := obj_cell oS 0
      have y1 := obj_cell oS 1
      have y2 := obj_cell oS 2
      have y3 := obj_cell oS 3
      have y4 := obj_cell oS 4
      simp only [List.getElem?_toArray, List.getElem?_cons_zero, List.getElem?_cons_succ] at y0 y1 y2 y3 y4
      rw [hwl] at hOK c1
      cases h0 : (n.toList == [])
      · have HR : Hid (stepOk ⟨5, n, L, v, m⟩ = false) := Lib.hid (by rw [hOK, h0]; rfl)
        clear hOK c1 c2 c3 hwl h hI
        go_enter Tryd.func26, Tryd.ntmps26
        go_wp2
        go_ret
        exact ⟨by rw [HR.out]; rfl, (B.refl _).alloc _ _⟩
      · cases h1 : (decide (1 ≤ wl) && decide (wl ≤ 1) && wellsOk L)
        · have HR : Hid (stepOk ⟨5, n, L, v, m⟩ = false) := Lib.hid (by rw [hOK, h0, h1]; rfl)
          rw [h1] at c1
          clear hOK c2 c3 hwl h hI h1
          go_enter Tryd.func26, Tryd.ntmps26
          go_wp2_with fail
          generalize w.alloc (.cells #[.int .i64 5, .string n, .slice so wl sc, .int .i64 v, .int .i64 m] 27) = W0 at *
          refine (Calls.mono (c1 _ q0) ?_)
          rintro _ w6 ⟨rfl, qq1⟩
          replace y0 := qq1.keep y0
          replace y1 := qq1.keep y1
          replace y2 := qq1.keep y2
          replace y3 := qq1.keep y3
          replace y4 := qq1.keep y4
          have q21 := q0.trans qq1
          clear c1 qq1
          have HZ := Lib.hid q21
          clear q21
          go_wp2
          go_ret
          exact ⟨by rw [HR.out]; rfl, HZ.out⟩
        · cases h2 : (decide ((1 : Int) ≤ v) && decide (v ≤ (20000000 : Int)))
          · have HR : Hid (stepOk ⟨5, n, L, v, m⟩ = false) := Lib.hid (by rw [hOK, h0, h1, h2]; rfl)
            rw [h1] at c1
            rw [h2] at c2
            clear hOK c3 hwl h hI h1 h2
            go_enter Tryd.func26, Tryd.ntmps26
            go_wp2_with fail
            generalize w.alloc (.cells #[.int .i64 5, .string n, .slice so wl sc, .int .i64 v, .int .i64 m] 27) = W0 at *
            refine (Calls.mono (c1 _ q0) ?_)
            rintro _ w6 ⟨rfl, qq1⟩
            replace y0 := qq1.keep y0
            replace y1 := qq1.keep y1
            replace y2 := qq1.keep y2
            replace y3 := qq1.keep y3
            replace y4 := qq1.keep y4
            have q21 := q0.trans qq1
            clear c1 qq1
            go_wp2_with fail
            refine (Calls.mono (c2 _) ?_)
            rintro _ _ ⟨rfl, rfl⟩
            clear c2
            have HZ := Lib.hid q21
            clear q21
            go_wp2
            go_ret
            exact ⟨by rw [HR.out]; rfl, HZ.out⟩
          · cases h3 : (decide ((1 : Int) ≤ m) && decide (m ≤ (20 : Int)))
            · have HR : Hid (stepOk ⟨5, n, L, v, m⟩ = false) := Lib.hid (by rw [hOK, h0, h1, h2, h3]; rfl)
              rw [h1] at c1
              rw [h2] at c2
              rw [h3] at c3
              clear hOK hwl h hI h1 h2 h3
              go_enter Tryd.func26, Tryd.ntmps26
              go_wp2_with fail
              generalize w.alloc (.cells #[.int .i64 5, .string n, .slice so wl sc, .int .i64 v, .int .i64 m] 27) = W0 at *
              refine (Calls.mono (c1 _ q0) ?_)
              rintro _ w6 ⟨rfl, qq1⟩
              replace y0 := qq1.keep y0
              replace y1 := qq1.keep y1
              replace y2 := qq1.keep y2
              replace y3 := qq1.keep y3
              replace y4 := qq1.keep y4
              have q21 := q0.trans qq1
              clear c1 qq1
              go_wp2_with fail
              refine (Calls.mono (c2 _) ?_)
              rintro _ _ ⟨rfl, rfl⟩
              clear c2
              go_wp2_with fail
              refine (Calls.mono (c3 _) ?_)
              rintro _ _ ⟨rfl, rfl⟩
              clear c3
              have HZ := Lib.hid q21
              clear q21
              go_wp2
              go_ret
              exact ⟨by rw [HR.out]; rfl, HZ.out⟩
            · have HR : Hid (stepOk ⟨5, n, L, v, m⟩ = true) := Lib.hid (by rw [hOK, h0, h1, h2, h3]; rfl)
              rw [h1] at c1
              rw [h2] at c2
              rw [h3] at c3
              clear hOK hwl h hI h1 h2 h3
              go_enter Tryd.func26, Tryd.ntmps26
              go_wp2_with fail
              generalize w.alloc (.cells #[.int .i64 5, .string n, .slice so wl sc, .int .i64 v, .int .i64 m] 27) = W0 at *
              refine (Calls.mono (c1 _ q0) ?_)
              rintro _ w6 ⟨rfl, qq1⟩
              replace y0 := qq1.keep y0
              replace y1 := qq1.keep y1
              replace y2 := qq1.keep y2
              replace y3 := qq1.keep y3
              replace y4 := qq1.keep y4
              have q21 := q0.trans qq1
              clear c1 qq1
              go_wp2_with fail
              refine (Calls.mono (c2 _) ?_)
              rintro _ _ ⟨rfl, rfl⟩
              clear c2
              go_wp2_with fail
              refine (Calls.mono (c3 _) ?_)
              rintro _ _ ⟨rfl, rfl⟩
              clear c3
              have HZ := Lib.hid q21
              clear q21
              go_wp2
              go_ret
              exact ⟨by rw [HR.out]; rfl, HZ.out⟩
    · have hOK := sayK_6 n L v m
      have c1 := fun w' (q : B w w') => pwritten_any _ L 2 96 w' (h.keepB q) hI
      have c2 := fun w => pwithin_any v 1 20000000 w
      obtain ⟨wl, hwl⟩ : ∃ wl, L.length = wl := ⟨_, rfl⟩
      rw [hwl]
      have q0 : B w (w.alloc (.cells #[.int .i64 6, .string n, .slice so wl sc, .int .i64 v, .int .i64 m] 27)) := (B.refl _).alloc _ _
      have oS := obj_new w (.cells #[.int .i64 6, .string n, .slice so wl sc, .int .i64 v, .int .i64 m] 27)
      have y0 := obj_cell oS 0
      have y1 := obj_cell oS 1
      have y2 := obj_cell oS 2
      have y3 := obj_cell oS 3
      have y4 := obj_cell oS 4
      simp only [List.getElem?_toArray, List.getElem?_cons_zero, List.getElem?_cons_succ] at y0 y1 y2 y3 y4
      rw [hwl] at hOK c1
      cases h0 : (n.toList == [])
      · have HR : Hid (stepOk ⟨6, n, L, v, m⟩ = false) := Lib.hid (by rw [hOK, h0]; rfl)
        clear hOK c1 c2 hwl h hI
        go_enter Tryd.func26, Tryd.ntmps26
        go_wp2
        go_ret
        exact ⟨by rw [HR.out]; rfl, (B.refl _).alloc _ _⟩
      · cases h1 : (decide (2 ≤ wl) && decide (wl ≤ 96) && wellsOk L)
        · have HR : Hid (stepOk ⟨6, n, L, v, m⟩ = false) := Lib.hid (by rw [hOK, h0, h1]; rfl)
          rw [h1] at c1
          clear hOK c2 hwl h hI h1
          go_enter Tryd.func26, Tryd.ntmps26
          go_wp2_with fail
          generalize w.alloc (.cells #[.int .i64 6, .string n, .slice so wl sc, .int .i64 v, .int .i64 m] 27) = W0 at *
          refine (Calls.mono (c1 _ q0) ?_)
          rintro _ w6 ⟨rfl, qq1⟩
          replace y0 := qq1.keep y0
          replace y1 := qq1.keep y1
          replace y2 := qq1.keep y2
          replace y3 := qq1.keep y3
          replace y4 := qq1.keep y4
          have q21 := q0.trans qq1
          clear c1 qq1
          have HZ := Lib.hid q21
          clear q21
          go_wp2
          go_ret
          exact ⟨by rw [HR.out]; rfl, HZ.out⟩
        · cases h2 : (decide ((1 : Int) ≤ v) && decide (v ≤ (20000000 : Int)))
          · have HR : Hid (stepOk ⟨6, n, L, v, m⟩ = false) := Lib.hid (by rw [hOK, h0, h1, h2]; rfl)
            rw [h1] at c1
            rw [h2] at c2
            clear hOK hwl h hI h1 h2
            go_enter Tryd.func26, Tryd.ntmps26
            go_wp2_with fail
            generalize w.alloc (.cells #[.int .i64 6, .string n, .slice so wl sc, .int .i64 v, .int .i64 m] 27) = W0 at *
            refine (Calls.mono (c1 _ q0) ?_)
            rintro _ w6 ⟨rfl, qq1⟩
            replace y0 := qq1.keep y0
            replace y1 := qq1.keep y1
            replace y2 := qq1.keep y2
            replace y3 := qq1.keep y3
            replace y4 := qq1.keep y4
            have q21 := q0.trans qq1
            clear c1 qq1
            go_wp2_with fail
            refine (Calls.mono (c2 _) ?_)
            rintro _ _ ⟨rfl, rfl⟩
            clear c2
            have HZ := Lib.hid q21
            clear q21
            go_wp2
            go_ret
            exact ⟨by rw [HR.out]; rfl, HZ.out⟩
          · cases h3 : (m == 0)
            · have HR : Hid (stepOk ⟨6, n, L, v, m⟩ = false) := Lib.hid (by rw [hOK, h0, h1, h2, h3]; rfl)
              rw [h1] at c1
              rw [h2] at c2
              clear hOK hwl h hI h1 h2
              go_enter Tryd.func26, Tryd.ntmps26
              go_wp2_with fail
              generalize w.alloc (.cells #[.int .i64 6, .string n, .slice so wl sc, .int .i64 v, .int .i64 m] 27) = W0 at *
              refine (Calls.mono (c1 _ q0) ?_)
              rintro _ w6 ⟨rfl, qq1⟩
              replace y0 := qq1.keep y0
              replace y1 := qq1.keep y1
              replace y2 := qq1.keep y2
              replace y3 := qq1.keep y3
              replace y4 := qq1.keep y4
              have q21 := q0.trans qq1
              clear c1 qq1
              go_wp2_with fail
              refine (Calls.mono (c2 _) ?_)
              rintro _ _ ⟨rfl, rfl⟩
              clear c2
              have HZ := Lib.hid q21
              clear q21
              go_wp2
              go_ret
              exact ⟨by rw [HR.out]; rfl, HZ.out⟩
            · have HR : Hid (stepOk ⟨6, n, L, v, m⟩ = true) := Lib.hid (by rw [hOK, h0, h1, h2, h3]; rfl)
              rw [h1] at c1
              rw [h2] at c2
              clear hOK hwl h hI h1 h2
              go_enter Tryd.func26, Tryd.ntmps26
              go_wp2_with fail
              generalize w.alloc (.cells #[.int .i64 6, .string n, .slice so wl sc, .int .i64 v, .int .i64 m] 27) = W0 at *
              refine (Calls.mono (c1 _ q0) ?_)
              rintro _ w6 ⟨rfl, qq1⟩
              replace y0 := qq1.keep y0
              replace y1 := qq1.keep y1
              replace y2 := qq1.keep y2
              replace y3 := qq1.keep y3
              replace y4 := qq1.keep y4
              have q21 := q0.trans qq1
              clear c1 qq1
              go_wp2_with fail
              refine (Calls.mono (c2 _) ?_)
              rintro _ _ ⟨rfl, rfl⟩
              clear c2
              have HZ := Lib.hid q21
              clear q21
              go_wp2
              go_ret
              exact ⟨by rw [HR.out]; rfl, HZ.out⟩
  · have HR : Hid (stepOk ⟨k, n, L, v, m⟩ = false) := Lib.hid (by
      unfold stepOk stepK
      simp only [not_or] at hk
      rw [if_neg hk.1, if_neg hk.2.1, if_neg hk.2.2.2.2.2.1, if_neg (show ¬ (k = 2 ∨ k = 3 ∨ k = 4 ∨ k = 6) by omega), Bool.and_false])
    simp only [not_or] at hk
    have k0 : (k == 0) = false := by simp; omega
    have k1 : (k == 1) = false := by simp; omega
    have k2 : (k == 2) = false := by simp; omega
    have k3 : (k == 3) = false := by simp; omega
    have k4 : (k == 4) = false := by simp; omega
    have k5 : (k == 5) = false := by simp; omega
    have k6 : (k == 6) = false := by simp; omega
    obtain ⟨wl, hwl⟩ : ∃ wl, L.length = wl := ⟨_, rfl⟩
    rw [hwl]
    have q0 := Lib.hid (show B w (w.alloc (.cells #[.int .i64 k, .string n, .slice so wl sc, .int .i64 v, .int .i64 m] 27)) from (B.refl _).alloc _ _)
    clear hk h hI hwl
    go_enter Tryd.func26, Tryd.ntmps26
    go_wp2
    go_ret
    exact ⟨by rw [HR.out]; rfl, q0.out⟩
end Go.Proofs.YtnmcgleanpdlmaaDoor

namespace Go.Proofs.YtnmcgleanpdlmaaDoor
open Go.RowKit
set_option linter.unusedVariables false
def SpsI (S : List Sp) : Prop := ∀ s ∈ S, WpsI s.w
set_option maxRecDepth 100000 in
set_option maxHeartbeats 2000000 in
theorem pright_any (v : Value) (L : List Sp) (w : World) (h : IsSps w v L) (hSI : SpsI L) : Calls Tryd.prog 8 #[v] w fun e w' => e = .returned (.bool (stepsOk L)) ∧ B w w' := by
  obtain ⟨ao, ac, rfl⟩ := h.form
  have hlen := h.len
  by_cases h200 : 200 < L.length
  · have hB : decide ((200 : Int) < (L.length : Int)) = true := decide_eq_true (by omega)
    have hN : decide (200 < L.length) = true := decide_eq_true h200
    have HR : Hid (stepsOk L = false) := Lib.hid (by unfold stepsOk; rw [decide_eq_false (by omega)]; rfl)
    clear h h200
    go_enter Tryd.func8, Tryd.ntmps8
    go_wp2
    go_ret
    exact ⟨by rw [HR.out]; rfl, B.refl _⟩
  · have hB : decide ((200 : Int) < (L.length : Int)) = false := decide_eq_false (by omega)
    have hN : decide (200 < L.length) = false := decide_eq_false h200
    go_enter Tryd.func8, Tryd.ntmps8
    go_wp2_with fail
    go_loopw [10] (fun iv wr => ∃ i : Nat, i ≤ L.length ∧ iv = .int .i64 i ∧ (L.take i).all stepOk = true ∧ B w wr) (fun iv _ => L.length + 1 - (intOf iv).toNat)
    case atStart => exact ⟨0, Nat.zero_le _, rfl, rfl, B.refl _⟩
    case round =>
      obtain ⟨i, hi, rfl, hok, hQi⟩ := hrel
      obtain ⟨wo, rfl⟩ : ∃ wo : World, wo = wr := ⟨_, rfl⟩
      by_cases hl : i < L.length
      · have hlB : decide ((i : Int) < (L.length : Int)) = true := decide_eq_true (by omega)
        have hlN : decide (i < L.length) = true := decide_eq_true hl
        have hlI : (i : Int) < (L.length : Int) := by omega
        have hi0 : (0 : Int) ≤ (i : Int) := by omega
        have wk1 : IntKind.i64.wrap ((i : Int) + 1) = (i : Int) + 1 := by rw [IntKind.wrap_i64]; omega
        obtain ⟨a, cap, e1, _, _, hr⟩ := (h.keepB hQi).at_ hl
        obtain ⟨rfl, _, rfl⟩ : ao = some a ∧ True ∧ ac = cap := by simpa using e1
        obtain ⟨F, hF⟩ : ∃ F, L[i]? = some F := ⟨_, List.getElem?_eq_getElem hl⟩
        have hFe : L[i] = F := by rw [List.getElem?_eq_getElem hl] at hF; simpa using hF
        rw [hFe] at hr
        have hup : (L.take (i + 1)).all stepOk = stepOk F := by
          rw [List.take_add_one, hF, List.all_append, hok]
          simp
        have hbad : stepOk F = false → stepsOk L = false := fun he => by
          have e : L.all stepOk = false := List.all_eq_false.2 ⟨_, List.mem_of_getElem? hF, by simp [he]⟩
          unfold stepsOk
          rw [e, Bool.and_false]
        obtain ⟨K, N, WS, V, M⟩ := F
        obtain ⟨g0, g1, ⟨sv, g2, g5⟩, g3, g4⟩ := hr
        simp only at g0 g1 g2 g3 g4 g5
        have hWI := hSI _ (List.mem_of_getElem? hF)
        have qb : B wo (wo.alloc (.cells #[.int .i64 K, .string N, sv, .int .i64 V, .int .i64 M] 27)) := (B.refl _).alloc _ _
        have cS := psayable_any K N WS V M sv _ (g5.keepB qb) hWI
        obtain ⟨so, sc, rfl⟩ := g5.form
        generalize stepOk ⟨K, N, WS, V, M⟩ = OK at *
        have HL := Lib.hid hl
        have HQ := Lib.hid (hQi.trans qb)
        clear qb hWI hF hFe e1 hl hQi h hok g5
        generalize WS.length = wl at *
        cases OK
        · have HR := Lib.hid (hbad rfl)
          clear hup hbad
          go_wp2_with fail
          refine cS.mono ?_
          rintro _ w5 ⟨rfl, q5⟩
          have HQ5 := Lib.hid (HQ.out.trans q5)
          clear cS g0 g1 g2 g3 g4 q5
          go_wp2
          go_ret
          exact ⟨by rw [HR.out]; rfl, HQ5.out⟩
        · have HU := Lib.hid hup
          clear hup hbad
          go_wp2_with fail
          refine cS.mono ?_
          rintro _ w5 ⟨rfl, q5⟩
          have HQ5 := Lib.hid (HQ.out.trans q5)
          clear cS g0 g1 g2 g3 g4 q5
          go_wp2
          go_roundw
          case rel => exact ⟨i + 1, by have := HL.out; omega, by go_num, HU.out, HQ5.out⟩
          case measure => have := HL.out; simp [intOf]; omega
      · have hlB : decide ((i : Int) < (L.length : Int)) = false := decide_eq_false (by omega)
        have hlN : decide (i < L.length) = false := decide_eq_false hl
        rw [List.take_of_length_le (by omega)] at hok
        have HR : Hid (stepsOk L = true) := Lib.hid (by unfold stepsOk; rw [hok, decide_eq_true (by omega : L.length ≤ 200)]; rfl)
        have HQ := Lib.hid hQi
        clear hok hl hi h hQi
        go_wp2
        go_ret
        exact ⟨by rw [HR.out]; rfl, HQ.out⟩
end Go.Proofs.YtnmcgleanpdlmaaDoor

namespace Go.Proofs.YtnmcgleanpdlmaaDoor
open Go.RowKit
set_option linter.unusedVariables false
theorem placesP_full {LL : List (List Wd)} (h : ∀ ws ∈ LL, 0 < ws.length) : (placesP LL).length = LL.length := by
  unfold placesP
  rw [List.length_map, List.filter_eq_self.2]
  intro ws hws
  have := h ws hws
  cases ws with
  | nil => simp at this
  | cons => rfl
theorem said_partsR {L : List (List (List UInt8))} {N : Nat} (hlen : (L.flatMap lineT).length ≤ N) (p : Nat) :
    (placeL p L).length = L.length ∧ (placeL p L).length ≤ N ∧ (∀ ws ∈ placeL p L, ws.length ≤ N) ∧ ∀ ws ∈ placeL p L, ∀ x ∈ ws, x.2.length ≤ N := by
  obtain ⟨g1, g2⟩ := flat_ge L
  have ht := placeL_texts p L
  have hm : ∀ ws ∈ placeL p L, ws.map Prod.snd ∈ L := fun ws hws => by
    have := List.mem_map_of_mem (f := List.map Prod.snd) hws
    rw [ht] at this
    exact this
  have h0 := congrArg List.length ht
  rw [List.length_map] at h0
  refine ⟨h0, by omega, fun ws hws => ?_, fun ws hws x hx => ?_⟩
  · have h1 := (lineT_ge (ws.map Prod.snd)).1
    have h2 := g2 _ (hm ws hws)
    rw [List.length_map] at h1
    omega
  · have h1 := (lineT_ge (ws.map Prod.snd)).2.2 x.2 (List.mem_map_of_mem hx)
    have h2 := g2 _ (hm ws hws)
    omega
theorem steps_back2 {l : List Sp} (h : stepsOk l = true) (hn : (stepsT l).length ≤ 65536) : ∃ LL, linesB (stepsT l) = (LL, 0, 0) ∧ parseP LL [] = .ok l ∧ (∀ ws ∈ LL, 0 < ws.length) ∧ LL.length = l.length ∧ LL.length ≤ 65536 ∧ (∀ ws ∈ LL, ws.length ≤ 65536) ∧ (∀ ws ∈ LL, ∀ x ∈ ws, x.2.length ≤ 65536) := by
  have hT : stepsT l = (l.map stepL).flatMap lineT := by unfold stepsT; rw [if_pos h, List.flatMap_map]
  rw [hT] at hn ⊢
  unfold stepsOk at h
  rw [Bool.and_eq_true, decide_eq_true_eq, List.all_eq_true] at h
  have ht := placeL_texts 0 (l.map stepL)
  obtain ⟨_, p1, p2, p3⟩ := said_partsR hn 0
  refine ⟨_, lines_said (fun x hx => ?_) hn, ?_, fun ws hws => ?_, ?_, p1, p2, p3⟩
  · obtain ⟨s, hs, rfl⟩ := List.mem_map.1 hx
    exact step_words (h.2 s hs)
  · have := parseP_said l _ [] ht h.2 (by simpa using h.1)
    simpa using this
  · have hm := List.mem_map_of_mem (f := List.map Prod.snd) hws
    rw [ht] at hm
    obtain ⟨s, _, hs⟩ := List.mem_map.1 hm
    cases ws with
    | nil => simp [stepL] at hs
    | cons => simp
  · have := congrArg List.length ht
    simpa using this
/-- A list of steps that the law looks at. -/
structure Rnd (w : World) (v : Value) (Z : List Sp) : Prop where
  is : IsSps w v Z
  int : SpsI Z
  len : Z.length ≤ 201
  few : wellsN Z ≤ 400
theorem Rnd.text {w : World} {v : Value} {Z : List Sp} (h : Rnd w v Z) (hok : stepsOk Z = true) : (stepsT Z).length ≤ 65536 := by
  have h1 := stepsT_len hok
  have h2 := h.len
  have h3 := h.few
  omega
theorem spsI_ok {L : List Sp} (h : ∀ s ∈ L, s.ok) : SpsI L := fun s hs p hp => by
  have h1 := (h s hs).2.2.2.2 p hp
  exact ⟨h1.2.1, h1.2.2⟩
end Go.Proofs.YtnmcgleanpdlmaaDoor

namespace Go.Proofs.YtnmcgleanpdlmaaDoor
open Go.RowKit
set_option linter.unusedVariables false
theorem strInfoP : (Tryd.prog.info? 9).map (fun i => (i.zero, i.size, i.bytes)) = some (some (.string ⟨#[]⟩), 1, 16) := by kernel_rfl
def flatT (l : List Wp) : List Value := l.map fun p => .string (strB p.t)
set_option maxRecDepth 100000 in
set_option maxHeartbeats 4000000 in
theorem texts_any (v : Value) (L : List Wp) (w : World) (h : IsWps w v L) (hI : WpsI L) (hz : L.length ≤ 65536) : Calls Tryd.prog 39 #[v] w fun e w' => ∃ u, e = .returned u ∧ w'.ownsRow w.heap.size 9 1 u L.length (flatT L) ∧ B w w' := by
  obtain ⟨i0, hi0, hz0, hz1, hz2⟩ := info_of strInfoP
  obtain ⟨ao, ac, rfl⟩ := h.form
  obtain ⟨n, hn⟩ : ∃ n, L.length = n := ⟨_, rfl⟩
  rw [hn] at hz ⊢
  have HN := Lib.hid hn
  have HI := Lib.hid h
  clear h hn
  have hb16 : i0.bytes * n ≤ 281474976710656 := by rw [hz2]; omega
  have hbml : n ≤ maxLen := by unfold maxLen; omega
  go_enter Tryd.func39, Tryd.ntmps39
  go_wp2_with (at_make; refine wpList_make_own _ rfl _ _ 62 rfl w.heap.size 9 i0 _ 1 Tryd.underlying62 hi0 hz0 hz1 .i64 .i64 _ n rfl rfl rfl hb16 hbml (Nat.le_refl _) ?_; intro wm hrow hgrow; have qm := (B.refl w).grownBy hgrow (fun _ h => by cases h); clear hgrow)
  generalize hgg : w.heap.size = b0 at *
  obtain ⟨W, rfl⟩ : ∃ W : World, W = wm := ⟨_, rfl⟩
  go_loopw [3, 11] (fun av iv wr => ∃ (i c gr : Nat), i ≤ n ∧ iv = .int .i64 i ∧ av = .slice (some ⟨gr, 0, none⟩) i c ∧ wr.ownsRow b0 9 1 (.slice (some ⟨gr, 0, none⟩) i c) i (flatT (L.take i)) ∧ B w wr) (fun _ iv _ => n + 1 - (intOf iv).toNat)
  case atStart => exact ⟨0, n, b0, Nat.zero_le _, rfl, rfl, hrow, qm⟩
  case round =>
    clear hrow qm
    obtain ⟨i, c, gr, hi, rfl, rfl, hown, q⟩ := hrel
    obtain ⟨wi, rfl⟩ : ∃ wi : World, wi = wr := ⟨_, rfl⟩
    by_cases hl : i < n
    · have hlB : decide ((i : Int) < (n : Int)) = true := decide_eq_true (by omega)
      have hlN : decide (i < n) = true := decide_eq_true hl
      have hlI : (i : Int) < (n : Int) := by omega
      have hi0' : (0 : Int) ≤ (i : Int) := by omega
      have wk1 : IntKind.i64.wrap ((i : Int) + 1) = (i : Int) + 1 := by rw [IntKind.wrap_i64]; omega
      obtain ⟨a, cap, e1, _, _, hr⟩ := (HI.out.keepB q).at_ (i := i) (by rw [HN.out]; exact hl)
      obtain ⟨rfl, _⟩ : ao = some a ∧ True := by simp at e1; exact ⟨e1.1, trivial⟩
      obtain ⟨X, hX⟩ : ∃ X, L[i]? = some X := ⟨_, List.getElem?_eq_getElem (by rw [HN.out]; exact hl)⟩
      rw [show L[i]'(by rw [HN.out]; exact hl) = X by rw [List.getElem?_eq_getElem (by rw [HN.out]; exact hl)] at hX; simpa using hX] at hr
      obtain ⟨hIr, hIc⟩ := hI X (List.mem_of_getElem? hX)
      have hup : flatT (L.take i) ++ [.string (strB X.t)] = flatT (L.take (i + 1)) := by
        rw [List.take_add_one, hX, Option.toList_some]
        simp [flatT]
      obtain ⟨N, R, C⟩ := X
      obtain ⟨x0, x1, x2⟩ := hr
      simp only at x0 x1 x2 hIr hIc
      have cT := fun w => wtext_any N R C hIr hIc w
      rw [show wellT N R C = Wp.t ⟨N, R, C⟩ from rfl] at cT
      obtain ⟨ts, hts⟩ : ∃ ts, strB (Wp.t ⟨N, R, C⟩) = ts := ⟨_, rfl⟩
      rw [hts] at cT hup
      have qb : B wi (wi.alloc (.cells #[.string N, .int .i64 R, .int .i64 C] 36)) := (B.refl _).alloc _ _
      have HU := Lib.hid (And.intro hup (And.intro hl (And.intro (row_keep hown qb) (q.trans qb))))
      clear hup hts hX e1 hl hown q qb
      go_wp2_with fail
      refine (Calls.mono (cT _) ?_)
      rintro _ w2 ⟨rfl, q2⟩
      have qc : B w2 (w2.alloc (.cells #[.string ts] 9)) := (B.refl _).alloc _ _
      have own3 := row_keep (row_keep HU.out.2.2.1 q2) qc
      have q3 := (HU.out.2.2.2.trans q2).trans qc
      have hb3 : b0 ≤ (w2.alloc (.cells #[.string ts] 9)).heap.size := by have := q3.below.size; omega
      clear cT q2 qc
      go_wp2_with (at_builtin; refine wpList_append_lies _ rfl _ _ 62 rfl b0 9 i0 _ 1 16 Tryd.underlying62 hi0 hz0 hz1 hz2 rfl (by omega) (.slice (some ⟨gr, 0, none⟩) i c) i (flatT (L.take i)) rfl own3 ⟨_, 0, none⟩ 1 1 [.string ts] rfl rfl (newest rfl) (fun u hu => by simp at hu; rw [hu]; rfl) (by omega) (by unfold maxLen; omega) (by omega) hb3 _ rfl ?_; intro gb cp W4 hown4 hgrow hat4 hlt4; have B4 := q3.grownBy hgrow (fun x hx => (by rw [hgg]; exact (own3.lt x hx).1)); rw [HU.out.1] at hown4; clear hgrow hat4 hlt4 own3 q3 hb3; replace B4 := Lib.hid B4; go_wp2_with fail)
      exact ⟨⟨i + 1, cp, gb, by have := HU.out.2.1; omega, by go_num, rfl, hown4, B4.out⟩, by have := HU.out.2.1; simp [intOf]; omega⟩
    · have hlB : decide ((i : Int) < (n : Int)) = false := decide_eq_false (by omega)
      have hlN : decide (i < n) = false := decide_eq_false hl
      obtain rfl : i = n := by omega
      rw [List.take_of_length_le (by have := HN.out; omega)] at hown
      have HZ := Lib.hid (And.intro hown q)
      clear hown q hl hi
      go_wp2
      go_ret
      refine ⟨_, rfl, ?_, HZ.out.2⟩
      rw [hgg]
      exact HZ.out.1
end Go.Proofs.YtnmcgleanpdlmaaDoor
