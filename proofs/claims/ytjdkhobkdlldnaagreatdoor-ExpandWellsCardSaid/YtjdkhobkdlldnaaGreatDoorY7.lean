/-
  The code's steps that may be.
-/
import Derived.Test.YtjdkhobkdlldnaaGreatDoorY1
import Derived.Test.YtjdkhobkdlldnaaGreatDoorY2
import Derived.Test.YtjdkhobkdlldnaaGreatDoorY3
import Derived.Test.YtjdkhobkdlldnaaGreatDoorY4
import Derived.Test.YtjdkhobkdlldnaaGreatDoorY5
import Derived.Test.YtjdkhobkdlldnaaGreatDoorY6
namespace Go.Proofs.YtjdkhobkdlldnaaGreatDoor
open Go.RowKit
set_option linter.unusedVariables false
def WpsI (L : List Wp) : Prop := ∀ p ∈ L, I64 p.r ∧ I64 p.c
set_option maxRecDepth 100000 in
set_option maxHeartbeats 2000000 in
theorem pwritten_any (wv : Value) (L : List Wp) (least most : Nat) (w : World) (h : IsWps w wv L) (hI : WpsI L) : Calls Tryz.prog 106 #[wv, .int .i64 (least : Int), .int .i64 (most : Int)] w fun e w' => e = .returned (.bool (decide (least ≤ L.length) && decide (L.length ≤ most) && wellsOk L)) ∧ B w w' := by
  obtain ⟨ao, ac, rfl⟩ := h.form
  have hlen := h.len
  obtain ⟨ln, hln⟩ : ∃ ln, L.length = ln := ⟨_, rfl⟩
  rw [hln] at hlen ⊢
  have HL := Lib.hid hln
  have HI := Lib.hid h
  clear h hln
  by_cases h1 : ln < least
  · have b1 : decide ((ln : Int) < (least : Int)) = true := decide_eq_true (by omega)
    have b2 : decide (ln < least) = true := decide_eq_true h1
    have HR := Lib.hid (show decide (least ≤ ln) = false from decide_eq_false (by omega))
    have HB := Lib.hid (B.refl w)
    clear h1
    go_enter Tryz.func106, Tryz.ntmps106
    go_wp2
    go_ret
    exact ⟨by rw [HR.out]; rfl, HB.out⟩
  have b1 : decide ((ln : Int) < (least : Int)) = false := decide_eq_false (by omega)
  have b2 : decide (ln < least) = false := decide_eq_false h1
  by_cases h3 : most < ln
  · have b3 : decide ((most : Int) < (ln : Int)) = true := decide_eq_true (by omega)
    have b4 : decide (most < ln) = true := decide_eq_true h3
    have HR := Lib.hid (show decide (ln ≤ most) = false from decide_eq_false (by omega))
    have HB := Lib.hid (B.refl w)
    clear h1 h3
    go_enter Tryz.func106, Tryz.ntmps106
    go_wp2
    go_ret
    exact ⟨by rw [HR.out, Bool.and_false]; rfl, HB.out⟩
  have b3 : decide ((most : Int) < (ln : Int)) = false := decide_eq_false (by omega)
  have b4 : decide (most < ln) = false := decide_eq_false h3
  have HR := Lib.hid (show (decide (least ≤ ln) && decide (ln ≤ most)) = true by rw [decide_eq_true (by omega), decide_eq_true (by omega)]; rfl)
  clear h1 h3
  go_enter Tryz.func106, Tryz.ntmps106
  go_wp2_with fail
  go_loopw [21] (fun iv wr => ∃ i : Nat, i ≤ ln ∧ iv = .int .i64 i ∧ (L.take i).all (fun p => !p.t.isEmpty) = true ∧ B w wr) (fun iv _ => ln + 1 - (intOf iv).toNat)
  case atStart => exact ⟨0, Nat.zero_le _, rfl, rfl, B.refl _⟩
  case round =>
    obtain ⟨i, hi, rfl, hok, q⟩ := hrel
    obtain ⟨wi, rfl⟩ : ∃ wi : World, wi = wr := ⟨_, rfl⟩
    by_cases hl : i < ln
    · have hlB : decide ((i : Int) < (ln : Int)) = true := decide_eq_true (by omega)
      have hlN : decide (i < ln) = true := decide_eq_true hl
      have hlI : (i : Int) < (ln : Int) := by omega
      have hi0 : (0 : Int) ≤ (i : Int) := by omega
      have wk1 : IntKind.i64.wrap ((i : Int) + 1) = (i : Int) + 1 := by rw [IntKind.wrap_i64]; omega
      obtain ⟨a, cap, e1, _, _, hr⟩ := (HI.out.keepB q).at_ (i := i) (by rw [HL.out]; exact hl)
      obtain ⟨rfl, _⟩ : ao = some a ∧ True := by simp at e1; exact ⟨e1.1, trivial⟩
      obtain ⟨X, hX⟩ : ∃ X, L[i]? = some X := ⟨_, List.getElem?_eq_getElem (by rw [HL.out]; exact hl)⟩
      rw [show L[i]'(by rw [HL.out]; exact hl) = X by rw [List.getElem?_eq_getElem (by rw [HL.out]; exact hl)] at hX; simpa using hX] at hr
      obtain ⟨hIr, hIc⟩ := hI X (List.mem_of_getElem? hX)
      have hup : (L.take (i + 1)).all (fun p => !p.t.isEmpty) = !X.t.isEmpty := by
        rw [List.take_add_one, hX, List.all_append, hok]
        simp
      have hbad : X.t.isEmpty = true → wellsOk L = false := fun he => List.all_eq_false.2 ⟨X, List.mem_of_getElem? hX, by simp [he]⟩
      have eT : ((strB X.t).toList == []) = X.t.isEmpty := by
        rw [Go.Lib.toList_data]
        show (X.t == []) = _
        cases X.t <;> rfl
      obtain ⟨N, R, C⟩ := X
      obtain ⟨x0, x1, x2⟩ := hr
      simp only at x0 x1 x2 hIr hIc
      have cT := fun w => wtext_any N R C hIr hIc w
      rw [show wellT N R C = Wp.t ⟨N, R, C⟩ from rfl] at cT
      generalize Wp.t ⟨N, R, C⟩ = TT at *
      obtain ⟨ts, hts⟩ : ∃ ts, strB TT = ts := ⟨_, rfl⟩
      rw [hts] at eT cT
      generalize TT.isEmpty = be at *
      have qb : B wi (wi.alloc (.cells #[.string N, .int .i64 R, .int .i64 C] 39)) := (B.refl _).alloc _ _
      cases be
      · have HN := Lib.hid (And.intro hup (And.intro hl (q.trans qb)))
        clear hup hbad hX e1 hok hl hi q qb hts
        go_wp2_with fail
        refine (Calls.mono (cT _) ?_)
        rintro _ w2 ⟨rfl, q2⟩
        replace HN := Lib.hid (And.intro HN.out.1 (And.intro HN.out.2.1 (HN.out.2.2.trans q2)))
        clear cT q2
        go_wp2
        go_roundw
        case rel => exact ⟨i + 1, by have := HN.out.2.1; omega, by go_num, HN.out.1, HN.out.2.2⟩
        case measure => have := HN.out.2.1; simp [intOf]; omega
      · have HN := Lib.hid (And.intro (hbad rfl) (q.trans qb))
        clear hup hbad hX e1 hok hl hi q qb hts
        go_wp2_with fail
        refine (Calls.mono (cT _) ?_)
        rintro _ w2 ⟨rfl, q2⟩
        replace HN := Lib.hid (And.intro HN.out.1 (HN.out.2.trans q2))
        clear cT q2
        go_wp2
        go_ret
        exact ⟨by rw [HN.out.1, Bool.and_false]; rfl, HN.out.2⟩
    · have hlB : decide ((i : Int) < (ln : Int)) = false := decide_eq_false (by omega)
      have hlN : decide (i < ln) = false := decide_eq_false hl
      rw [List.take_of_length_le (by have := HL.out; omega)] at hok
      have HZ := Lib.hid (And.intro (show wellsOk L = true from hok) q)
      clear hok hl hi q
      go_wp2
      go_ret
      exact ⟨by rw [HZ.out.1, HR.out]; rfl, HZ.out.2⟩
theorem sayK_0 (n : ByteArray) (L : List Wp) (v m : Int) : stepOk ⟨0, n, L, v, m⟩ = (nameS n && (((L.length : Int) == 0) && ((v == 0) && (m == 0)))) := by
  show (wellsOk L && stepK ⟨0, n, L, v, m⟩) = _
  rw [stepK_0]
  cases L with
  | nil =>
    show (true && (nameS n && true && decide (v = 0) && decide (m = 0))) = (nameS n && (true && (decide (v = 0) && decide (m = 0))))
    simp only [Bool.true_and, Bool.and_true, Bool.and_assoc]
  | cons p L =>
    rw [show decide ((p :: L).length = 0) = false from rfl, show (((p :: L).length : Int) == 0) = false by rw [beq_eq_false_iff_ne, List.length_cons]; omega]
    simp
theorem sayK_1 (n : ByteArray) (L : List Wp) (v m : Int) : stepOk ⟨1, n, L, v, m⟩ = ((n.toList == []) && (((L.length : Int) == 0) && ((v == 0) && (decide ((0 : Int) ≤ m) && decide (m ≤ (1 : Int)))))) := by
  show (wellsOk L && stepK ⟨1, n, L, v, m⟩) = _
  rw [stepK_1]
  have e9 : (decide (m = 0) || decide (m = 1)) = (decide ((0 : Int) ≤ m) && decide (m ≤ (1 : Int))) := by
    by_cases h : m = 0
    · subst h; rfl
    by_cases h1 : m = 1
    · subst h1; rfl
    rw [decide_eq_false h, decide_eq_false h1]
    by_cases h2 : (0 : Int) ≤ m
    · rw [decide_eq_false (show ¬ m ≤ 1 by omega), Bool.and_false]; rfl
    · rw [decide_eq_false h2]; rfl
  rw [e9]
  cases L with
  | nil =>
    show (true && ((n.toList == []) && true && decide (v = 0) && _)) = ((n.toList == []) && (true && (decide (v = 0) && _)))
    simp only [Bool.true_and, Bool.and_true, Bool.and_assoc]
  | cons p L =>
    rw [show decide ((p :: L).length = 0) = false from rfl, show (((p :: L).length : Int) == 0) = false by rw [beq_eq_false_iff_ne, List.length_cons]; omega]
    simp
theorem sayK_2 (n : ByteArray) (L : List Wp) (v m : Int) : stepOk ⟨2, n, L, v, m⟩ = ((n.toList == []) && ((decide (2 ≤ L.length) && decide (L.length ≤ 2) && wellsOk L) && ((decide ((1 : Int) ≤ v) && decide (v ≤ (20000000 : Int))) && (m == 0)))) := by
  show (wellsOk L && stepK ⟨2, n, L, v, m⟩) = _
  rw [stepK_2]
  have em : (m == 0) = decide (m = 0) := rfl
  unfold inB
  cases wellsOk L <;> cases (n.toList == []) <;> cases decide ((1 : Int) ≤ v) <;> cases decide (v ≤ (20000000 : Int)) <;> rw [em] <;> cases decide (m = 0) <;> by_cases h1 : 2 ≤ L.length <;> by_cases h2 : L.length ≤ 2 <;> simp [h1, h2] <;> omega
theorem sayK_3 (n : ByteArray) (L : List Wp) (v m : Int) : stepOk ⟨3, n, L, v, m⟩ = ((n.toList == []) && ((decide (2 ≤ L.length) && decide (L.length ≤ 96) && wellsOk L) && ((decide ((1 : Int) ≤ v) && decide (v ≤ (20000000 : Int))) && (m == 0)))) := by
  show (wellsOk L && stepK ⟨3, n, L, v, m⟩) = _
  rw [stepK_3]
  have em : (m == 0) = decide (m = 0) := rfl
  unfold inB
  cases wellsOk L <;> cases (n.toList == []) <;> cases decide ((1 : Int) ≤ v) <;> cases decide (v ≤ (20000000 : Int)) <;> rw [em] <;> cases decide (m = 0) <;> by_cases h1 : 2 ≤ L.length <;> by_cases h2 : L.length ≤ 96 <;> simp [h1, h2] <;> omega
theorem sayK_4 (n : ByteArray) (L : List Wp) (v m : Int) : stepOk ⟨4, n, L, v, m⟩ = ((n.toList == []) && ((decide (2 ≤ L.length) && decide (L.length ≤ 96) && wellsOk L) && ((decide ((1 : Int) ≤ v) && decide (v ≤ (20000000 : Int))) && (m == 0)))) := by
  show (wellsOk L && stepK ⟨4, n, L, v, m⟩) = _
  rw [stepK_4]
  have em : (m == 0) = decide (m = 0) := rfl
  unfold inB
  cases wellsOk L <;> cases (n.toList == []) <;> cases decide ((1 : Int) ≤ v) <;> cases decide (v ≤ (20000000 : Int)) <;> rw [em] <;> cases decide (m = 0) <;> by_cases h1 : 2 ≤ L.length <;> by_cases h2 : L.length ≤ 96 <;> simp [h1, h2] <;> omega
theorem sayK_5 (n : ByteArray) (L : List Wp) (v m : Int) : stepOk ⟨5, n, L, v, m⟩ = ((n.toList == []) && ((decide (1 ≤ L.length) && decide (L.length ≤ 1) && wellsOk L) && ((decide ((1 : Int) ≤ v) && decide (v ≤ (20000000 : Int))) && (decide ((1 : Int) ≤ m) && decide (m ≤ (20 : Int)))))) := by
  show (wellsOk L && stepK ⟨5, n, L, v, m⟩) = _
  rw [stepK_5]
  unfold inB
  cases wellsOk L <;> cases (n.toList == []) <;> cases decide ((1 : Int) ≤ v) <;> cases decide (v ≤ (20000000 : Int)) <;> cases decide ((1 : Int) ≤ m) <;> cases decide (m ≤ (20 : Int)) <;> by_cases h1 : 1 ≤ L.length <;> by_cases h2 : L.length ≤ 1 <;> simp [h1, h2] <;> omega
theorem sayK_6 (n : ByteArray) (L : List Wp) (v m : Int) : stepOk ⟨6, n, L, v, m⟩ = ((n.toList == []) && ((decide (2 ≤ L.length) && decide (L.length ≤ 96) && wellsOk L) && ((decide ((1 : Int) ≤ v) && decide (v ≤ (20000000 : Int))) && (m == 0)))) := by
  show (wellsOk L && stepK ⟨6, n, L, v, m⟩) = _
  rw [stepK_6]
  have em : (m == 0) = decide (m = 0) := rfl
  unfold inB
  cases wellsOk L <;> cases (n.toList == []) <;> cases decide ((1 : Int) ≤ v) <;> cases decide (v ≤ (20000000 : Int)) <;> rw [em] <;> cases decide (m = 0) <;> by_cases h1 : 2 ≤ L.length <;> by_cases h2 : L.length ≤ 96 <;> simp [h1, h2] <;> omega
set_option maxRecDepth 100000 in
set_option maxHeartbeats 4000000 in
theorem psayable_any (k : Int) (n : ByteArray) (L : List Wp) (v m : Int) (wsv : Value) (w : World) (h : IsWps w wsv L) (hI : WpsI L) : Calls Tryz.prog 83 #[.agg #[.int .i64 k, .string n, wsv, .int .i64 v, .int .i64 m]] w fun e w' => e = .returned (.bool (stepOk ⟨k, n, L, v, m⟩)) ∧ B w w' := by
  obtain ⟨so, sc, rfl⟩ := h.form
  by_cases hk : k = 0 ∨ k = 1 ∨ k = 2 ∨ k = 3 ∨ k = 4 ∨ k = 5 ∨ k = 6
  · rcases hk with rfl | rfl | rfl | rfl | rfl | rfl | rfl
    · have hOK := sayK_0 n L v m
      have c0 := fun w => name_any n w
      obtain ⟨wl, hwl⟩ : ∃ wl, L.length = wl := ⟨_, rfl⟩
      rw [hwl]
      have q0 : B w (w.alloc (.cells #[.int .i64 0, .string n, .slice so wl sc, .int .i64 v, .int .i64 m] 67)) := (B.refl _).alloc _ _
      have oS := obj_new w (.cells #[.int .i64 0, .string n, .slice so wl sc, .int .i64 v, .int .i64 m] 67)
      have y0 := obj_cell oS 0
      have y1 := obj_cell oS 1
      have y2 := obj_cell oS 2
      have y3 := obj_cell oS 3
      have y4 := obj_cell oS 4
      simp only [List.getElem?_toArray, List.getElem?_cons_zero, List.getElem?_cons_succ] at y0 y1 y2 y3 y4
      rw [hwl] at hOK
      cases h0 : nameS n
      · have HR : Hid (stepOk ⟨0, n, L, v, m⟩ = false) := Lib.hid (by rw [hOK, h0]; rfl)
        rw [h0] at c0
        clear hOK hwl h hI h0
        go_enter Tryz.func83, Tryz.ntmps83
        go_wp2_with fail
        generalize w.alloc (.cells #[.int .i64 0, .string n, .slice so wl sc, .int .i64 v, .int .i64 m] 67) = W0 at *
        refine (Calls.mono (c0 _) ?_)
        rintro _ w5 ⟨rfl, qq0⟩
        replace y0 := qq0.keep y0
        replace y1 := qq0.keep y1
        replace y2 := qq0.keep y2
        replace y3 := qq0.keep y3
        replace y4 := qq0.keep y4
        have q20 := q0.trans qq0
        clear c0 qq0
        have HZ := Lib.hid q20
        clear q20
        go_wp2
        go_ret
        exact ⟨by rw [HR.out]; rfl, HZ.out⟩
      · cases h1 : ((wl : Int) == 0)
        · have HR : Hid (stepOk ⟨0, n, L, v, m⟩ = false) := Lib.hid (by rw [hOK, h0, h1]; rfl)
          rw [h0] at c0
          clear hOK hwl h hI h0
          go_enter Tryz.func83, Tryz.ntmps83
          go_wp2_with fail
          generalize w.alloc (.cells #[.int .i64 0, .string n, .slice so wl sc, .int .i64 v, .int .i64 m] 67) = W0 at *
          refine (Calls.mono (c0 _) ?_)
          rintro _ w5 ⟨rfl, qq0⟩
          replace y0 := qq0.keep y0
          replace y1 := qq0.keep y1
          replace y2 := qq0.keep y2
          replace y3 := qq0.keep y3
          replace y4 := qq0.keep y4
          have q20 := q0.trans qq0
          clear c0 qq0
          have HZ := Lib.hid q20
          clear q20
          go_wp2
          go_ret
          exact ⟨by rw [HR.out]; rfl, HZ.out⟩
        · cases h2 : (v == 0)
          · have HR : Hid (stepOk ⟨0, n, L, v, m⟩ = false) := Lib.hid (by rw [hOK, h0, h1, h2]; rfl)
            rw [h0] at c0
            clear hOK hwl h hI h0
            go_enter Tryz.func83, Tryz.ntmps83
            go_wp2_with fail
            generalize w.alloc (.cells #[.int .i64 0, .string n, .slice so wl sc, .int .i64 v, .int .i64 m] 67) = W0 at *
            refine (Calls.mono (c0 _) ?_)
            rintro _ w5 ⟨rfl, qq0⟩
            replace y0 := qq0.keep y0
            replace y1 := qq0.keep y1
            replace y2 := qq0.keep y2
            replace y3 := qq0.keep y3
            replace y4 := qq0.keep y4
            have q20 := q0.trans qq0
            clear c0 qq0
            have HZ := Lib.hid q20
            clear q20
            go_wp2
            go_ret
            exact ⟨by rw [HR.out]; rfl, HZ.out⟩
          · cases h3 : (m == 0)
            · have HR : Hid (stepOk ⟨0, n, L, v, m⟩ = false) := Lib.hid (by rw [hOK, h0, h1, h2, h3]; rfl)
              rw [h0] at c0
              clear hOK hwl h hI h0
              go_enter Tryz.func83, Tryz.ntmps83
              go_wp2_with fail
              generalize w.alloc (.cells #[.int .i64 0, .string n, .slice so wl sc, .int .i64 v, .int .i64 m] 67) = W0 at *
              refine (Calls.mono (c0 _) ?_)
              rintro _ w5 ⟨rfl, qq0⟩
              replace y0 := qq0.keep y0
              replace y1 := qq0.keep y1
              replace y2 := qq0.keep y2
              replace y3 := qq0.keep y3
              replace y4 := qq0.keep y4
              have q20 := q0.trans qq0
              clear c0 qq0
              have HZ := Lib.hid q20
              clear q20
              go_wp2
              go_ret
              exact ⟨by rw [HR.out]; rfl, HZ.out⟩
            · have HR : Hid (stepOk ⟨0, n, L, v, m⟩ = true) := Lib.hid (by rw [hOK, h0, h1, h2, h3]; rfl)
              rw [h0] at c0
              clear hOK hwl h hI h0
              go_enter Tryz.func83, Tryz.ntmps83
              go_wp2_with fail
              generalize w.alloc (.cells #[.int .i64 0, .string n, .slice so wl sc, .int .i64 v, .int .i64 m] 67) = W0 at *
              refine (Calls.mono (c0 _) ?_)
              rintro _ w5 ⟨rfl, qq0⟩
              replace y0 := qq0.keep y0
              replace y1 := qq0.keep y1
              replace y2 := qq0.keep y2
              replace y3 := qq0.keep y3
              replace y4 := qq0.keep y4
              have q20 := q0.trans qq0
              clear c0 qq0
              have HZ := Lib.hid q20
              clear q20
              go_wp2
              go_ret
              exact ⟨by rw [HR.out]; rfl, HZ.out⟩
    · have hOK := sayK_1 n L v m
      have c3 := fun w => pwithin_any m 0 1 w
      obtain ⟨wl, hwl⟩ : ∃ wl, L.length = wl := ⟨_, rfl⟩
      rw [hwl]
      have q0 : B w (w.alloc (.cells #[.int .i64 1, .string n, .slice so wl sc, .int .i64 v, .int .i64 m] 67)) := (B.refl _).alloc _ _
      have oS := obj_new w (.cells #[.int .i64 1, .string n, .slice so wl sc, .int .i64 v, .int .i64 m] 67)
      have y0 := obj_cell oS 0
      have y1 := obj_cell oS 1
      have y2 := obj_cell oS 2
      have y3 := obj_cell oS 3
      have y4 := obj_cell oS 4
      simp only [List.getElem?_toArray, List.getElem?_cons_zero, List.getElem?_cons_succ] at y0 y1 y2 y3 y4
      rw [hwl] at hOK
      cases h0 : (n.toList == [])
      · have HR : Hid (stepOk ⟨1, n, L, v, m⟩ = false) := Lib.hid (by rw [hOK, h0]; rfl)
        clear hOK c3 hwl h hI
        go_enter Tryz.func83, Tryz.ntmps83
        go_wp2
        go_ret
        exact ⟨by rw [HR.out]; rfl, (B.refl _).alloc _ _⟩
      · cases h1 : ((wl : Int) == 0)
        · have HR : Hid (stepOk ⟨1, n, L, v, m⟩ = false) := Lib.hid (by rw [hOK, h0, h1]; rfl)
          clear hOK c3 hwl h hI
          go_enter Tryz.func83, Tryz.ntmps83
          go_wp2
          go_ret
          exact ⟨by rw [HR.out]; rfl, (B.refl _).alloc _ _⟩
        · cases h2 : (v == 0)
          · have HR : Hid (stepOk ⟨1, n, L, v, m⟩ = false) := Lib.hid (by rw [hOK, h0, h1, h2]; rfl)
            clear hOK c3 hwl h hI
            go_enter Tryz.func83, Tryz.ntmps83
            go_wp2
            go_ret
            exact ⟨by rw [HR.out]; rfl, (B.refl _).alloc _ _⟩
          · cases h3 : (decide ((0 : Int) ≤ m) && decide (m ≤ (1 : Int)))
            · have HR : Hid (stepOk ⟨1, n, L, v, m⟩ = false) := Lib.hid (by rw [hOK, h0, h1, h2, h3]; rfl)
              rw [h3] at c3
              clear hOK hwl h hI h3
              go_enter Tryz.func83, Tryz.ntmps83
              go_wp2_with fail
              generalize w.alloc (.cells #[.int .i64 1, .string n, .slice so wl sc, .int .i64 v, .int .i64 m] 67) = W0 at *
              refine (Calls.mono (c3 _) ?_)
              rintro _ _ ⟨rfl, rfl⟩
              clear c3
              have HZ := Lib.hid q0
              clear q0
              go_wp2
              go_ret
              exact ⟨by rw [HR.out]; rfl, HZ.out⟩
            · have HR : Hid (stepOk ⟨1, n, L, v, m⟩ = true) := Lib.hid (by rw [hOK, h0, h1, h2, h3]; rfl)
              rw [h3] at c3
              clear hOK hwl h hI h3
              go_enter Tryz.func83, Tryz.ntmps83
              go_wp2_with fail
              generalize w.alloc (.cells #[.int .i64 1, .string n, .slice so wl sc, .int .i64 v, .int .i64 m] 67) = W0 at *
              refine (Calls.mono (c3 _) ?_)
              rintro _ _ ⟨rfl, rfl⟩
              clear c3
              have HZ := Lib.hid q0
              clear q0
              go_wp2
              go_ret
              exact ⟨by rw [HR.out]; rfl, HZ.out⟩
    · have hOK := sayK_2 n L v m
      have c1 := fun w' (q : B w w') => pwritten_any _ L 2 2 w' (h.keepB q) hI
      have c2 := fun w => pwithin_any v 1 20000000 w
      obtain ⟨wl, hwl⟩ : ∃ wl, L.length = wl := ⟨_, rfl⟩
      rw [hwl]
      have q0 : B w (w.alloc (.cells #[.int .i64 2, .string n, .slice so wl sc, .int .i64 v, .int .i64 m] 67)) := (B.refl _).alloc _ _
      have oS := obj_new w (.cells #[.int .i64 2, .string n, .slice so wl sc, .int .i64 v, .int .i64 m] 67)
      have y0 := obj_cell oS 0
      have y1 := obj_cell oS 1
      have y2 := obj_cell oS 2
      have y3 := obj_cell oS 3
      have y4 := obj_cell oS 4
      simp only [List.getElem?_toArray, List.getElem?_cons_zero, List.getElem?_cons_succ] at y0 y1 y2 y3 y4
      rw [hwl] at hOK c1
      cases h0 : (n.toList == [])
      · have HR : Hid (stepOk ⟨2, n, L, v, m⟩ = false) := Lib.hid (by rw [hOK, h0]; rfl)
        clear hOK c1 c2 hwl h hI
        go_enter Tryz.func83, Tryz.ntmps83
        go_wp2
        go_ret
        exact ⟨by rw [HR.out]; rfl, (B.refl _).alloc _ _⟩
      · cases h1 : (decide (2 ≤ wl) && decide (wl ≤ 2) && wellsOk L)
        · have HR : Hid (stepOk ⟨2, n, L, v, m⟩ = false) := Lib.hid (by rw [hOK, h0, h1]; rfl)
          rw [h1] at c1
          clear hOK c2 hwl h hI h1
          go_enter Tryz.func83, Tryz.ntmps83
          go_wp2_with fail
          generalize w.alloc (.cells #[.int .i64 2, .string n, .slice so wl sc, .int .i64 v, .int .i64 m] 67) = W0 at *
          refine (Calls.mono (c1 _ q0) ?_)
          rintro _ w6 ⟨rfl, qq1⟩
          replace y0 := qq1.keep y0
          replace y1 := qq1.keep y1
          replace y2 := qq1.keep y2
          replace y3 := qq1.keep y3
          replace y4 := qq1.keep y4
          have q21 := q0.trans qq1
          clear c1 qq1
          have HZ := Lib.hid q21
          clear q21
          go_wp2
          go_ret
          exact ⟨by rw [HR.out]; rfl, HZ.out⟩
        · cases h2 : (decide ((1 : Int) ≤ v) && decide (v ≤ (20000000 : Int)))
          · have HR : Hid (stepOk ⟨2, n, L, v, m⟩ = false) := Lib.hid (by rw [hOK, h0, h1, h2]; rfl)
            rw [h1] at c1
            rw [h2] at c2
            clear hOK hwl h hI h1 h2
            go_enter Tryz.func83, Tryz.ntmps83
            go_wp2_with fail
            generalize w.alloc (.cells #[.int .i64 2, .string n, .slice so wl sc, .int .i64 v, .int .i64 m] 67) = W0 at *
            refine (Calls.mono (c1 _ q0) ?_)
            rintro _ w6 ⟨rfl, qq1⟩
            replace y0 := qq1.keep y0
            replace y1 := qq1.keep y1
            replace y2 := qq1.keep y2
            replace y3 := qq1.keep y3
            replace y4 := qq1.keep y4
            have q21 := q0.trans qq1
            clear c1 qq1
            go_wp2_with fail
            refine (Calls.mono (c2 _) ?_)
            rintro _ _ ⟨rfl, rfl⟩
            clear c2
            have HZ := Lib.hid q21
            clear q21
            go_wp2
            go_ret
            exact ⟨by rw [HR.out]; rfl, HZ.out⟩
          · cases h3 : (m == 0)
            · have HR : Hid (stepOk ⟨2, n, L, v, m⟩ = false) := Lib.hid (by rw [hOK, h0, h1, h2, h3]; rfl)
              rw [h1] at c1
              rw [h2] at c2
              clear hOK hwl h hI h1 h2
              go_enter Tryz.func83, Tryz.ntmps83
              go_wp2_with fail
              generalize w.alloc (.cells #[.int .i64 2, .string n, .slice so wl sc, .int .i64 v, .int .i64 m] 67) = W0 at *
              refine (Calls.mono (c1 _ q0) ?_)
              rintro _ w6 ⟨rfl, qq1⟩
              replace y0 := qq1.keep y0
              replace y1 := qq1.keep y1
              replace y2 := qq1.keep y2
              replace y3 := qq1.keep y3
              replace y4 := qq1.keep y4
              have q21 := q0.trans qq1
              clear c1 qq1
              go_wp2_with fail
              refine (Calls.mono (c2 _) ?_)
              rintro _ _ ⟨rfl, rfl⟩
              clear c2
              have HZ := Lib.hid q21
              clear q21
              go_wp2
              go_ret
              exact ⟨by rw [HR.out]; rfl, HZ.out⟩
            · have HR : Hid (stepOk ⟨2, n, L, v, m⟩ = true) := Lib.hid (by rw [hOK, h0, h1, h2, h3]; rfl)
              rw [h1] at c1
              rw [h2] at c2
              clear hOK hwl h hI h1 h2
              go_enter Tryz.func83, Tryz.ntmps83
              go_wp2_with fail
              generalize w.alloc (.cells #[.int .i64 2, .string n, .slice so wl sc, .int .i64 v, .int .i64 m] 67) = W0 at *
              refine (Calls.mono (c1 _ q0) ?_)
              rintro _ w6 ⟨rfl, qq1⟩
              replace y0 := qq1.keep y0
              replace y1 := qq1.keep y1
              replace y2 := qq1.keep y2
              replace y3 := qq1.keep y3
              replace y4 := qq1.keep y4
              have q21 := q0.trans qq1
              clear c1 qq1
              go_wp2_with fail
              refine (Calls.mono (c2 _) ?_)
              rintro _ _ ⟨rfl, rfl⟩
              clear c2
              have HZ := Lib.hid q21
              clear q21
              go_wp2
              go_ret
              exact ⟨by rw [HR.out]; rfl, HZ.out⟩
    · have hOK := sayK_3 n L v m
      have c1 := fun w' (q : B w w') => pwritten_any _ L 2 96 w' (h.keepB q) hI
      have c2 := fun w => pwithin_any v 1 20000000 w
      obtain ⟨wl, hwl⟩ : ∃ wl, L.length = wl := ⟨_, rfl⟩
      rw [hwl]
      have q0 : B w (w.alloc (.cells #[.int .i64 3, .string n, .slice so wl sc, .int .i64 v, .int .i64 m] 67)) := (B.refl _).alloc _ _
      have oS := obj_new w (.cells #[.int .i64 3, .string n, .slice so wl sc, .int .i64 v, .int .i64 m] 67)
      have y0 := obj_cell oS 0
      have y1 := obj_cell oS 1
      have y2 := obj_cell oS 2
      have y3 := obj_cell oS 3
      have y4 := obj_cell oS 4
      simp only [List.getElem?_toArray, List.getElem?_cons_zero, List.getElem?_cons_succ] at y0 y1 y2 y3 y4
      rw [hwl] at hOK c1
      cases h0 : (n.toList == [])
      · have HR : Hid (stepOk ⟨3, n, L, v, m⟩ = false) := Lib.hid (by rw [hOK, h0]; rfl)
        clear hOK c1 c2 hwl h hI
        go_enter Tryz.func83, Tryz.ntmps83
        go_wp2
        go_ret
        exact ⟨by rw [HR.out]; rfl, (B.refl _).alloc _ _⟩
      · cases h1 : (decide (2 ≤ wl) && decide (wl ≤ 96) && wellsOk L)
        · have HR : Hid (stepOk ⟨3, n, L, v, m⟩ = false) := Lib.hid (by rw [hOK, h0, h1]; rfl)
          rw [h1] at c1
          clear hOK c2 hwl h hI h1
          go_enter Tryz.func83, Tryz.ntmps83
          go_wp2_with fail
          generalize w.alloc (.cells #[.int .i64 3, .string n, .slice so wl sc, .int .i64 v, .int .i64 m] 67) = W0 at *
          refine (Calls.mono (c1 _ q0) ?_)
          rintro _ w6 ⟨rfl, qq1⟩
          replace y0 := qq1.keep y0
          replace y1 := qq1.keep y1
          replace y2 := qq1.keep y2
          replace y3 := qq1.keep y3
          replace y4 := qq1.keep y4
          have q21 := q0.trans qq1
          clear c1 qq1
          have HZ := Lib.hid q21
          clear q21
          go_wp2
          go_ret
          exact ⟨by rw [HR.out]; rfl, HZ.out⟩
        · cases h2 : (decide ((1 : Int) ≤ v) && decide (v ≤ (20000000 : Int)))
          · have HR : Hid (stepOk ⟨3, n, L, v, m⟩ = false) := Lib.hid (by rw [hOK, h0, h1, h2]; rfl)
            rw [h1] at c1
            rw [h2] at c2
            clear hOK hwl h hI h1 h2
            go_enter Tryz.func83, Tryz.ntmps83
            go_wp2_with fail
            generalize w.alloc (.cells #[.int .i64 3, .string n, .slice so wl sc, .int .i64 v, .int .i64 m] 67) = W0 at *
            refine (Calls.mono (c1 _ q0) ?_)
            rintro _ w6 ⟨rfl, qq1⟩
            replace y0 := qq1.keep y0
            replace y1 := qq1.keep y1
            replace y2 := qq1.keep y2
            replace y3 := qq1.keep y3
            replace y4 := qq1.keep y4
            have q21 := q0.trans qq1
            clear c1 qq1
            go_wp2_with fail
            refine (Calls.mono (c2 _) ?_)
            rintro _ _ ⟨rfl, rfl⟩
            clear c2
            have HZ := Lib.hid q21
            clear q21
            go_wp2
            go_ret
            exact ⟨by rw [HR.out]; rfl, HZ.out⟩
          · cases h3 : (m == 0)
            · have HR : Hid (stepOk ⟨3, n, L, v, m⟩ = false) := Lib.hid (by rw [hOK, h0, h1, h2, h3]; rfl)
              rw [h1] at c1
              rw [h2] at c2
              clear hOK hwl h hI h1 h2
              go_enter Tryz.func83, Tryz.ntmps83
              go_wp2_with fail
              generalize w.alloc (.cells #[.int .i64 3, .string n, .slice so wl sc, .int .i64 v, .int .i64 m] 67) = W0 at *
              refine (Calls.mono (c1 _ q0) ?_)
              rintro _ w6 ⟨rfl, qq1⟩
              replace y0 := qq1.keep y0
              replace y1 := qq1.keep y1
              replace y2 := qq1.keep y2
              replace y3 := qq1.keep y3
              replace y4 := qq1.keep y4
              have q21 := q0.trans qq1
              clear c1 qq1
              go_wp2_with fail
              refine (Calls.mono (c2 _) ?_)
              rintro _ _ ⟨rfl, rfl⟩
              clear c2
              have HZ := Lib.hid q21
              clear q21
              go_wp2
              go_ret
              exact ⟨by rw [HR.out]; rfl, HZ.out⟩
            · have HR : Hid (stepOk ⟨3, n, L, v, m⟩ = true) := Lib.hid (by rw [hOK, h0, h1, h2, h3]; rfl)
              rw [h1] at c1
              rw [h2] at c2
              clear hOK hwl h hI h1 h2
              go_enter Tryz.func83, Tryz.ntmps83
              go_wp2_with fail
              generalize w.alloc (.cells #[.int .i64 3, .string n, .slice so wl sc, .int .i64 v, .int .i64 m] 67) = W0 at *
              refine (Calls.mono (c1 _ q0) ?_)
              rintro _ w6 ⟨rfl, qq1⟩
              replace y0 := qq1.keep y0
              replace y1 := qq1.keep y1
              replace y2 := qq1.keep y2
              replace y3 := qq1.keep y3
              replace y4 := qq1.keep y4
              have q21 := q0.trans qq1
              clear c1 qq1
              go_wp2_with fail
              refine (Calls.mono (c2 _) ?_)
              rintro _ _ ⟨rfl, rfl⟩
              clear c2
              have HZ := Lib.hid q21
              clear q21
              go_wp2
              go_ret
              exact ⟨by rw [HR.out]; rfl, HZ.out⟩
    · have hOK := sayK_4 n L v m
      have c1 := fun w' (q : B w w') => pwritten_any _ L 2 96 w' (h.keepB q) hI
      have c2 := fun w => pwithin_any v 1 20000000 w
      obtain ⟨wl, hwl⟩ : ∃ wl, L.length = wl := ⟨_, rfl⟩
      rw [hwl]
      have q0 : B w (w.alloc (.cells #[.int .i64 4, .string n, .slice so wl sc, .int .i64 v, .int .i64 m] 67)) := (B.refl _).alloc _ _
      have oS := obj_new w (.cells #[.int .i64 4, .string n, .slice so wl sc, .int .i64 v, .int .i64 m] 67)
      have y0 := obj_cell oS 0
      have y1 := obj_cell oS 1
      have y2 := obj_cell oS 2
      have y3 := obj_cell oS 3
      have y4 := obj_cell oS 4
      simp only [List.getElem?_toArray, List.getElem?_cons_zero, List.getElem?_cons_succ] at y0 y1 y2 y3 y4
      rw [hwl] at hOK c1
      cases h0 : (n.toList == [])
      · have HR : Hid (stepOk ⟨4, n, L, v, m⟩ = false) := Lib.hid (by rw [hOK, h0]; rfl)
        clear hOK c1 c2 hwl h hI
        go_enter Tryz.func83, Tryz.ntmps83
        go_wp2
        go_ret
        exact ⟨by rw [HR.out]; rfl, (B.refl _).alloc _ _⟩
      · cases h1 : (decide (2 ≤ wl) && decide (wl ≤ 96) && wellsOk L)
        · have HR : Hid (stepOk ⟨4, n, L, v, m⟩ = false) := Lib.hid (by rw [hOK, h0, h1]; rfl)
          rw [h1] at c1
          clear hOK c2 hwl h hI h1
          go_enter Tryz.func83, Tryz.ntmps83
          go_wp2_with fail
          generalize w.alloc (.cells #[.int .i64 4, .string n, .slice so wl sc, .int .i64 v, .int .i64 m] 67) = W0 at *
          refine (Calls.mono (c1 _ q0) ?_)
          rintro _ w6 ⟨rfl, qq1⟩
          replace y0 := qq1.keep y0
          replace y1 := qq1.keep y1
          replace y2 := qq1.keep y2
          replace y3 := qq1.keep y3
          replace y4 := qq1.keep y4
          have q21 := q0.trans qq1
          clear c1 qq1
          have HZ := Lib.hid q21
          clear q21
          go_wp2
          go_ret
          exact ⟨by rw [HR.out]; rfl, HZ.out⟩
        · cases h2 : (decide ((1 : Int) ≤ v) && decide (v ≤ (20000000 : Int)))
          · have HR : Hid (stepOk ⟨4, n, L, v, m⟩ = false) := Lib.hid (by rw [hOK, h0, h1, h2]; rfl)
            rw [h1] at c1
            rw [h2] at c2
            clear hOK hwl h hI h1 h2
            go_enter Tryz.func83, Tryz.ntmps83
            go_wp2_with fail
            generalize w.alloc (.cells #[.int .i64 4, .string n, .slice so wl sc, .int .i64 v, .int .i64 m] 67) = W0 at *
            refine (Calls.mono (c1 _ q0) ?_)
            rintro _ w6 ⟨rfl, qq1⟩
            replace y0 := qq1.keep y0
            replace y1 := qq1.keep y1
            replace y2 := qq1.keep y2
            replace y3 := qq1.keep y3
            replace y4 := qq1.keep y4
            have q21 := q0.trans qq1
            clear c1 qq1
            go_wp2_with fail
            refine (Calls.mono (c2 _) ?_)
            rintro _ _ ⟨rfl, rfl⟩
            clear c2
            have HZ := Lib.hid q21
            clear q21
            go_wp2
            go_ret
            exact ⟨by rw [HR.out]; rfl, HZ.out⟩
          · cases h3 : (m == 0)
            · have HR : Hid (stepOk ⟨4, n, L, v, m⟩ = false) := Lib.hid (by rw [hOK, h0, h1, h2, h3]; rfl)
              rw [h1] at c1
              rw [h2] at c2
              clear hOK hwl h hI h1 h2
              go_enter Tryz.func83, Tryz.ntmps83
              go_wp2_with fail
              generalize w.alloc (.cells #[.int .i64 4, .string n, .slice so wl sc, .int .i64 v, .int .i64 m] 67) = W0 at *
              refine (Calls.mono (c1 _ q0) ?_)
              rintro _ w6 ⟨rfl, qq1⟩
              replace y0 := qq1.keep y0
              replace y1 := qq1.keep y1
              replace y2 := qq1.keep y2
              replace y3 := qq1.keep y3
              replace y4 := qq1.keep y4
              have q21 := q0.trans qq1
              clear c1 qq1
              go_wp2_with fail
              refine (Calls.mono (c2 _) ?_)
              rintro _ _ ⟨rfl, rfl⟩
              clear c2
              have HZ := Lib.hid q21
              clear q21
              go_wp2
              go_ret
              exact ⟨by rw [HR.out]; rfl, HZ.out⟩
            · have HR : Hid (stepOk ⟨4, n, L, v, m⟩ = true) := Lib.hid (by rw [hOK, h0, h1, h2, h3]; rfl)
              rw [h1] at c1
              rw [h2] at c2
              clear hOK hwl h hI h1 h2
              go_enter Tryz.func83, Tryz.ntmps83
              go_wp2_with fail
              generalize w.alloc (.cells #[.int .i64 4, .string n, .slice so wl sc, .int .i64 v, .int .i64 m] 67) = W0 at *
              refine (Calls.mono (c1 _ q0) ?_)
              rintro _ w6 ⟨rfl, qq1⟩
              replace y0 := qq1.keep y0
              replace y1 := qq1.keep y1
              replace y2 := qq1.keep y2
              replace y3 := qq1.keep y3
              replace y4 := qq1.keep y4
              have q21 := q0.trans qq1
              clear c1 qq1
              go_wp2_with fail
              refine (Calls.mono (c2 _) ?_)
              rintro _ _ ⟨rfl, rfl⟩
              clear c2
              have HZ := Lib.hid q21
              clear q21
              go_wp2
              go_ret
              exact ⟨by rw [HR.out]; rfl, HZ.out⟩
    · have hOK := sayK_5 n L v m
      have c1 := fun w' (q : B w w') => pwritten_any _ L 1 1 w' (h.keepB q) hI
      have c2 := fun w => pwithin_any v 1 20000000 w
      have c3 := fun w => pwithin_any m 1 20 w
      obtain ⟨wl, hwl⟩ : ∃ wl, L.length = wl := ⟨_, rfl⟩
      rw [hwl]
      have q0 : B w (w.alloc (.cells #[.int .i64 5, .string n, .slice so wl sc, .int .i64 v, .int .i64 m] 67)) := (B.refl _).alloc _ _
      have oS := obj_new w (.cells #[.int .i64 5, .string n, .slice so wl sc, .int .i64 v, .int .i64 m] 67)
      have y0 := obj_cell oS 0
      have y1 := obj_cell oS 1
      have y2 := obj_cell oS 2
      have y3 := obj_cell oS 3
      have y4 := obj_cell oS 4
      simp only [List.getElem?_toArray, List.getElem?_cons_zero, List.getElem?_cons_succ] at y0 y1 y2 y3 y4
      rw [hwl] at hOK c1
      cases h0 : (n.toList == [])
      · have HR : Hid (stepOk ⟨5, n, L, v, m⟩ = false) := Lib.hid (by rw [hOK, h0]; rfl)
        clear hOK c1 c2 c3 hwl h hI
        go_enter Tryz.func83, Tryz.ntmps83
        go_wp2
        go_ret
        exact ⟨by rw [HR.out]; rfl, (B.refl _).alloc _ _⟩
      · cases h1 : (decide (1 ≤ wl) && decide (wl ≤ 1) && wellsOk L)
        · have HR : Hid (stepOk ⟨5, n, L, v, m⟩ = false) := Lib.hid (by rw [hOK, h0, h1]; rfl)
          rw [h1] at c1
          clear hOK c2 c3 hwl h hI h1
          go_enter Tryz.func83, Tryz.ntmps83
          go_wp2_with fail
          generalize w.alloc (.cells #[.int .i64 5, .string n, .slice so wl sc, .int .i64 v, .int .i64 m] 67) = W0 at *
          refine (Calls.mono (c1 _ q0) ?_)
          rintro _ w6 ⟨rfl, qq1⟩
          replace y0 := qq1.keep y0
          replace y1 := qq1.keep y1
          replace y2 := qq1.keep y2
          replace y3 := qq1.keep y3
          replace y4 := qq1.keep y4
          have q21 := q0.trans qq1
          clear c1 qq1
          have HZ := Lib.hid q21
          clear q21
          go_wp2
          go_ret
          exact ⟨by rw [HR.out]; rfl, HZ.out⟩
        · cases h2 : (decide ((1 : Int) ≤ v) && decide (v ≤ (20000000 : Int)))
          · have HR : Hid (stepOk ⟨5, n, L, v, m⟩ = false) := Lib.hid (by rw [hOK, h0, h1, h2]; rfl)
            rw [h1] at c1
            rw [h2] at c2
            clear hOK c3 hwl h hI h1 h2
            go_enter Tryz.func83, Tryz.ntmps83
            go_wp2_with fail
            generalize w.alloc (.cells #[.int .i64 5, .string n, .slice so wl sc, .int .i64 v, .int .i64 m] 67) = W0 at *
            refine (Calls.mono (c1 _ q0) ?_)
            rintro _ w6 ⟨rfl, qq1⟩
            replace y0 := qq1.keep y0
            replace y1 := qq1.keep y1
            replace y2 := qq1.keep y2
            replace y3 := qq1.keep y3
            replace y4 := qq1.keep y4
            have q21 := q0.trans qq1
            clear c1 qq1
            go_wp2_with fail
            refine (Calls.mono (c2 _) ?_)
            rintro _ _ ⟨rfl, rfl⟩
            clear c2
            have HZ := Lib.hid q21
            clear q21
            go_wp2
            go_ret
            exact ⟨by rw [HR.out]; rfl, HZ.out⟩
          · cases h3 : (decide ((1 : Int) ≤ m) && decide (m ≤ (20 : Int)))
            · have HR : Hid (stepOk ⟨5, n, L, v, m⟩ = false) := Lib.hid (by rw [hOK, h0, h1, h2, h3]; rfl)
              rw [h1] at c1
              rw [h2] at c2
              rw [h3] at c3
              clear hOK hwl h hI h1 h2 h3
              go_enter Tryz.func83, Tryz.ntmps83
              go_wp2_with fail
              generalize w.alloc (.cells #[.int .i64 5, .string n, .slice so wl sc, .int .i64 v, .int .i64 m] 67) = W0 at *
              refine (Calls.mono (c1 _ q0) ?_)
              rintro _ w6 ⟨rfl, qq1⟩
              replace y0 := qq1.keep y0
              replace y1 := qq1.keep y1
              replace y2 := qq1.keep y2
              replace y3 := qq1.keep y3
              replace y4 := qq1.keep y4
              have q21 := q0.trans qq1
              clear c1 qq1
              go_wp2_with fail
              refine (Calls.mono (c2 _) ?_)
              rintro _ _ ⟨rfl, rfl⟩
              clear c2
              go_wp2_with fail
              refine (Calls.mono (c3 _) ?_)
              rintro _ _ ⟨rfl, rfl⟩
              clear c3
              have HZ := Lib.hid q21
              clear q21
              go_wp2
              go_ret
              exact ⟨by rw [HR.out]; rfl, HZ.out⟩
            · have HR : Hid (stepOk ⟨5, n, L, v, m⟩ = true) := Lib.hid (by rw [hOK, h0, h1, h2, h3]; rfl)
              rw [h1] at c1
              rw [h2] at c2
              rw [h3] at c3
              clear hOK hwl h hI h1 h2 h3
              go_enter Tryz.func83, Tryz.ntmps83
              go_wp2_with fail
              generalize w.alloc (.cells #[.int .i64 5, .string n, .slice so wl sc, .int .i64 v, .int .i64 m] 67) = W0 at *
              refine (Calls.mono (c1 _ q0) ?_)
              rintro _ w6 ⟨rfl, qq1⟩
              replace y0 := qq1.keep y0
              replace y1 := qq1.keep y1
              replace y2 := qq1.keep y2
              replace y3 := qq1.keep y3
              replace y4 := qq1.keep y4
              have q21 := q0.trans qq1
              clear c1 qq1
              go_wp2_with fail
              refine (Calls.mono (c2 _) ?_)
              rintro _ _ ⟨rfl, rfl⟩
              clear c2
              go_wp2_with fail
              refine (Calls.mono (c3 _) ?_)
              rintro _ _ ⟨rfl, rfl⟩
              clear c3
              have HZ := Lib.hid q21
              clear q21
              go_wp2
              go_ret
              exact ⟨by rw [HR.out]; rfl, HZ.out⟩
    · have hOK := sayK_6 n L v m
      have c1 := fun w' (q : B w w') => pwritten_any _ L 2 96 w' (h.keepB q) hI
      have c2 := fun w => pwithin_any v 1 20000000 w
      obtain ⟨wl, hwl⟩ : ∃ wl, L.length = wl := ⟨_, rfl⟩
      rw [hwl]
      have q0 : B w (w.alloc (.cells #[.int .i64 6, .string n, .slice so wl sc, .int .i64 v, .int .i64 m] 67)) := (B.refl _).alloc _ _
      have oS := obj_new w (.cells #[.int .i64 6, .string n, .slice so wl sc, .int .i64 v, .int .i64 m] 67)
      have y0 := obj_cell oS 0
      have y1 := obj_cell oS 1
      have y2 := obj_cell oS 2
      have y3 := obj_cell oS 3
      have y4 := obj_cell oS 4
      simp only [List.getElem?_toArray, List.getElem?_cons_zero, List.getElem?_cons_succ] at y0 y1 y2 y3 y4
      rw [hwl] at hOK c1
      cases h0 : (n.toList == [])
      · have HR : Hid (stepOk ⟨6, n, L, v, m⟩ = false) := Lib.hid (by rw [hOK, h0]; rfl)
        clear hOK c1 c2 hwl h hI
        go_enter Tryz.func83, Tryz.ntmps83
        go_wp2
        go_ret
        exact ⟨by rw [HR.out]; rfl, (B.refl _).alloc _ _⟩
      · cases h1 : (decide (2 ≤ wl) && decide (wl ≤ 96) && wellsOk L)
        · have HR : Hid (stepOk ⟨6, n, L, v, m⟩ = false) := Lib.hid (by rw [hOK, h0, h1]; rfl)
          rw [h1] at c1
          clear hOK c2 hwl h hI h1
          go_enter Tryz.func83, Tryz.ntmps83
          go_wp2_with fail
          generalize w.alloc (.cells #[.int .i64 6, .string n, .slice so wl sc, .int .i64 v, .int .i64 m] 67) = W0 at *
          refine (Calls.mono (c1 _ q0) ?_)
          rintro _ w6 ⟨rfl, qq1⟩
          replace y0 := qq1.keep y0
          replace y1 := qq1.keep y1
          replace y2 := qq1.keep y2
          replace y3 := qq1.keep y3
          replace y4 := qq1.keep y4
          have q21 := q0.trans qq1
          clear c1 qq1
          have HZ := Lib.hid q21
          clear q21
          go_wp2
          go_ret
          exact ⟨by rw [HR.out]; rfl, HZ.out⟩
        · cases h2 : (decide ((1 : Int) ≤ v) && decide (v ≤ (20000000 : Int)))
          · have HR : Hid (stepOk ⟨6, n, L, v, m⟩ = false) := Lib.hid (by rw [hOK, h0, h1, h2]; rfl)
            rw [h1] at c1
            rw [h2] at c2
            clear hOK hwl h hI h1 h2
            go_enter Tryz.func83, Tryz.ntmps83
            go_wp2_with fail
            generalize w.alloc (.cells #[.int .i64 6, .string n, .slice so wl sc, .int .i64 v, .int .i64 m] 67) = W0 at *
            refine (Calls.mono (c1 _ q0) ?_)
            rintro _ w6 ⟨rfl, qq1⟩
            replace y0 := qq1.keep y0
            replace y1 := qq1.keep y1
            replace y2 := qq1.keep y2
            replace y3 := qq1.keep y3
            replace y4 := qq1.keep y4
            have q21 := q0.trans qq1
            clear c1 qq1
            go_wp2_with fail
            refine (Calls.mono (c2 _) ?_)
            rintro _ _ ⟨rfl, rfl⟩
            clear c2
            have HZ := Lib.hid q21
            clear q21
            go_wp2
            go_ret
            exact ⟨by rw [HR.out]; rfl, HZ.out⟩
          · cases h3 : (m == 0)
            · have HR : Hid (stepOk ⟨6, n, L, v, m⟩ = false) := Lib.hid (by rw [hOK, h0, h1, h2, h3]; rfl)
              rw [h1] at c1
              rw [h2] at c2
              clear hOK hwl h hI h1 h2
              go_enter Tryz.func83, Tryz.ntmps83
              go_wp2_with fail
              generalize w.alloc (.cells #[.int .i64 6, .string n, .slice so wl sc, .int .i64 v, .int .i64 m] 67) = W0 at *
              refine (Calls.mono (c1 _ q0) ?_)
              rintro _ w6 ⟨rfl, qq1⟩
              replace y0 := qq1.keep y0
              replace y1 := qq1.keep y1
              replace y2 := qq1.keep y2
              replace y3 := qq1.keep y3
              replace y4 := qq1.keep y4
              have q21 := q0.trans qq1
              clear c1 qq1
              go_wp2_with fail
              refine (Calls.mono (c2 _) ?_)
              rintro _ _ ⟨rfl, rfl⟩
              clear c2
              have HZ := Lib.hid q21
              clear q21
              go_wp2
              go_ret
              exact ⟨by rw [HR.out]; rfl, HZ.out⟩
            · have HR : Hid (stepOk ⟨6, n, L, v, m⟩ = true) := Lib.hid (by rw [hOK, h0, h1, h2, h3]; rfl)
              rw [h1] at c1
              rw [h2] at c2
              clear hOK hwl h hI h1 h2
              go_enter Tryz.func83, Tryz.ntmps83
              go_wp2_with fail
              generalize w.alloc (.cells #[.int .i64 6, .string n, .slice so wl sc, .int .i64 v, .int .i64 m] 67) = W0 at *
              refine (Calls.mono (c1 _ q0) ?_)
              rintro _ w6 ⟨rfl, qq1⟩
              replace y0 := qq1.keep y0
              replace y1 := qq1.keep y1
              replace y2 := qq1.keep y2
              replace y3 := qq1.keep y3
              replace y4 := qq1.keep y4
              have q21 := q0.trans qq1
              clear c1 qq1
              go_wp2_with fail
              refine (Calls.mono (c2 _) ?_)
              rintro _ _ ⟨rfl, rfl⟩
              clear c2
              have HZ := Lib.hid q21
              clear q21
              go_wp2
              go_ret
              exact ⟨by rw [HR.out]; rfl, HZ.out⟩
  · have HR : Hid (stepOk ⟨k, n, L, v, m⟩ = false) := Lib.hid (by
      unfold stepOk stepK
      simp only [not_or] at hk
      rw [if_neg hk.1, if_neg hk.2.1, if_neg hk.2.2.2.2.2.1, if_neg (show ¬ (k = 2 ∨ k = 3 ∨ k = 4 ∨ k = 6) by omega), Bool.and_false])
    simp only [not_or] at hk
    have k0 : (k == 0) = false := by simp; omega
    have k1 : (k == 1) = false := by simp; omega
    have k2 : (k == 2) = false := by simp; omega
    have k3 : (k == 3) = false := by simp; omega
    have k4 : (k == 4) = false := by simp; omega
    have k5 : (k == 5) = false := by simp; omega
    have k6 : (k == 6) = false := by simp; omega
    obtain ⟨wl, hwl⟩ : ∃ wl, L.length = wl := ⟨_, rfl⟩
    rw [hwl]
    have q0 := Lib.hid (show B w (w.alloc (.cells #[.int .i64 k, .string n, .slice so wl sc, .int .i64 v, .int .i64 m] 67)) from (B.refl _).alloc _ _)
    clear hk h hI hwl
    go_enter Tryz.func83, Tryz.ntmps83
    go_wp2
    go_ret
    exact ⟨by rw [HR.out]; rfl, q0.out⟩
end Go.Proofs.YtjdkhobkdlldnaaGreatDoor
