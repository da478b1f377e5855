/-
  Each well of a deck has one number, and each number one well.
-/
import Derived.Test.YtjcpabppklkjpaaDoorZ1
import Derived.Test.YtjcpabppklkjpaaDoorZ2
import Derived.Test.YtjcpabppklkjpaaDoorZ3
import Derived.Test.YtjcpabppklkjpaaDoorZ4
import Derived.Test.YtjcpabppklkjpaaDoorZ5
import Derived.Test.YtjcpabppklkjpaaDoorZ6
import Derived.Test.YtjcpabppklkjpaaDoorZ7
import Derived.Test.YtjcpabppklkjpaaDoorZ8
import Derived.Test.YtjcpabppklkjpaaDoorZ9
namespace Go.Proofs.YtjcpabppklkjpaaDoor
open Go.RowKit
set_option linter.unusedVariables false
set_option maxRecDepth 100000 in
set_option maxHeartbeats 4000000 in
theorem wnumbers_any (WN : ByteArray) (a b c d r k c9 : Int) (ha : 0 ≤ a ∧ a ≤ 255) (hb : 0 ≤ b ∧ b ≤ 255) (hc : 0 ≤ c ∧ c ≤ 255) (hd : 0 ≤ d ∧ d ≤ 255) (hr : I64 r) (hc9 : I64 c9) (hk : I64 k) (w : World) :
    Calls Tryd.prog 4 #[.int .u8 a, .int .u8 b, .int .u8 c, .int .u8 d, .agg #[.string WN, .int .i64 r, .int .i64 c9], .int .i64 k] w fun e w' => e = .returned (.bool true) ∧ B w w' := by
  have ck := fun w => wknown_any w
  have q0 := (B.refl w).alloc #[.string WN, .int .i64 r, .int .i64 c9] 23
  have oW := obj_new w (.cells #[.string WN, .int .i64 r, .int .i64 c9] 23)
  by_cases hlen : 40 < WN.size
  · have g3 : decide ((40 : Int) < (WN.size : Int)) = true := decide_eq_true (by omega)
    have g4 : decide (40 < WN.size) = true := decide_eq_true (by omega)
    clear hlen hr hc ha hb hc9 hd hk
    go_enter Tryd.func4, Tryd.ntmps4
    go_wp2_with fail
    refine (ck _).mono ?_
    rintro _ w1 ⟨rfl, q1⟩
    have k0 : w1.cell? ⟨w.heap.size, 0, none⟩ = some (.string WN) := obj_cell (q1.obj oW) 0
    go_wp2
    go_ret
    exact ⟨rfl, q0.trans q1⟩
  have g3 : decide ((40 : Int) < (WN.size : Int)) = false := decide_eq_false (by omega)
  have g4 : decide (40 < WN.size) = false := decide_eq_false (by omega)
  have cD := fun w => deck_any a b c d (.slice none 0 0) [] (by decide) ha hb hc hd w (isU32s_nil w)
  have hwb := seat_wares ha hb hc hd
  have hna := seat_names a b c d
  have hcn := seat_count ha hb hc hd
  have hw2 : (wares7 a b c d).length = 2 := rfl
  have cN : ∀ wv tv fv w, IsDk w wv tv fv (seatD a b c d []) → Calls Tryd.prog 14 #[.agg #[wv, tv, fv]] w fun e w' => e = .returned (.int .i64 (countW (wares7 a b c d))) ∧ Q w w' := fun wv tv fv w h => wcount_any wv tv fv _ w h hwb (by show (wares7 a b c d).length ≤ 100; omega)
  have cN8 : ∀ wv tv fv w, IsDk w wv tv fv (seatD a b c d []) → Calls Tryd.prog 15 #[.agg #[wv, tv, fv]] w fun e w' => e = .returned (.int .i64 (countW (wares7 a b c d))) ∧ B w w' := fun wv tv fv w h => r8count_any wv tv fv _ w h hwb (by show (wares7 a b c d).length ≤ 100; omega)
  have cA : ∀ wv tv fv w i, I64 i → IsDk w wv tv fv (seatD a b c d []) → Calls Tryd.prog 16 #[.agg #[wv, tv, fv], .int .i64 i] w fun e w' => e = .returned (.tuple #[wellV (atW (wares7 a b c d) i), .bool (atW (wares7 a b c d) i).isSome]) ∧ B w w' := fun wv tv fv w i hi h => wat_any wv tv fv _ i hi w h hwb
  have cA8 : ∀ wv tv fv w i, I64 i → IsDk w wv tv fv (seatD a b c d []) → Calls Tryd.prog 17 #[.agg #[wv, tv, fv], .int .i64 i] w fun e w' => e = .returned (.tuple #[wellV (atW (wares7 a b c d) i), .bool (atW (wares7 a b c d) i).isSome]) ∧ B w w' := fun wv tv fv w i hi h => r8at_any wv tv fv _ i hi w h hwb
  have cI : ∀ wv tv fv w n r c', I64 r → I64 c' → IsDk w wv tv fv (seatD a b c d []) → Calls Tryd.prog 18 #[.agg #[wv, tv, fv], .agg #[.string n, .int .i64 r, .int .i64 c']] w fun e w' => e = .returned (.tuple #[.int .i64 ((indexW (wares7 a b c d) 0 n r c').getD 0), .bool (indexW (wares7 a b c d) 0 n r c').isSome]) ∧ Q w w' := fun wv tv fv w n r c' h1 h2 h => by
    have := windex_any wv tv fv _ n r c' h1 h2 w h hwb (by show (wares7 a b c d).length ≤ 100; omega)
    rw [indexC_eq _ _ _ _ _ (show namesApart (seatD a b c d []).ws from hna)] at this
    exact this
  have cI8 : ∀ wv tv fv w n r c', IsDk w wv tv fv (seatD a b c d []) → Calls Tryd.prog 19 #[.agg #[wv, tv, fv], .agg #[.string n, .int .i64 r, .int .i64 c']] w fun e w' => e = .returned (.tuple #[.int .i64 ((indexW (wares7 a b c d) 0 n r c').getD 0), .bool (indexW (wares7 a b c d) 0 n r c').isSome]) ∧ Q w w' := fun wv tv fv w n r c' h => r8index_any wv tv fv _ n r c' w h hwb (by show (wares7 a b c d).length ≤ 100; omega)
  have hAt : ∀ i, (atW (wares7 a b c d) i).isSome = (decide (0 ≤ i) && decide (i < countW (wares7 a b c d))) := fun i => at_some _ i hwb
  have hRg : ∀ i n r c', atW (wares7 a b c d) i = some (n, r, c') → 0 ≤ r ∧ r < 8 ∧ 0 ≤ c' ∧ c' < 12 := fun i n r c' h => at_range _ i n r c' hwb h
  have hIx : ∀ i n r c', atW (wares7 a b c d) i = some (n, r, c') → indexW (wares7 a b c d) 0 n r c' = some i := fun i n r c' h => by
    have := at_index _ 0 i n r c' hwb hna h
    rw [this]; simp
  generalize seatD a b c d [] = SD at *
  generalize wares7 a b c d = WD at *
  generalize countW WD = NN at *
  obtain ⟨WS, TS, FS⟩ := SD
  go_enter Tryd.func4, Tryd.ntmps4
  go_wp2_with fail
  refine (ck _).mono ?_
  rintro _ w1 ⟨rfl, q1⟩
  have k0 : w1.cell? ⟨w.heap.size, 0, none⟩ = some (.string WN) := obj_cell (q1.obj oW) 0
  go_wp2_with fail
  refine (cD _).mono ?_
  rintro _ w2 ⟨wv, tv, fv, rfl, hD, q2⟩
  obtain ⟨ao, ac, bo, bc, co, cc, rfl, rfl, rfl⟩ := hD.forms
  simp only at cN cN8 cA cA8 cI cI8 hD ⊢
  have qa := ((q0.trans q1).trans q2).alloc #[.slice ao WS.length ac, .slice bo TS.length bc, .slice co FS.length cc] 37
  have oE := q2.obj (q1.obj oW)
  have oD := obj_new w2 (.cells #[.slice ao WS.length ac, .slice bo TS.length bc, .slice co FS.length cc] 37)
  have hD3 := hD.keepB ((B.refl w2).alloc #[.slice ao WS.length ac, .slice bo TS.length bc, .slice co FS.length cc] 37)
  replace oE := ((B.refl w2).alloc #[.slice ao WS.length ac, .slice bo TS.length bc, .slice co FS.length cc] 37).obj oE
  have hEl := obj_lt oE
  clear hD k0 q0 q1 q2 oW ck cD
  obtain ⟨W3, hW3⟩ : ∃ W3, w2.alloc (.cells #[.slice ao WS.length ac, .slice bo TS.length bc, .slice co FS.length cc] 37) = W3 := ⟨_, rfl⟩
  rw [hW3] at qa oE oD hD3
  have p0 : W3.cell? ⟨w2.heap.size, 0, none⟩ = some (.slice ao WS.length ac) := obj_cell oD 0
  have p1 : W3.cell? ⟨w2.heap.size, 1, none⟩ = some (.slice bo TS.length bc) := obj_cell oD 1
  have p2 : W3.cell? ⟨w2.heap.size, 2, none⟩ = some (.slice co FS.length cc) := obj_cell oD 2
  go_wp2_with fail
  try rw [hW3]
  go_wp2_with fail
  clear hW3
  generalize w2.heap.size = H at *
  generalize w.heap.size = E at *
  refine (cN _ _ _ _ hD3).mono ?_
  rintro _ w4 ⟨rfl, q4⟩
  replace p0 := q4.keep p0
  replace p1 := q4.keep p1
  replace p2 := q4.keep p2
  go_wp2_with fail
  refine (cN8 _ _ _ _ (hD3.keepB q4.b)).mono ?_
  rintro _ w5 ⟨rfl, q5⟩
  have hB5 := q4.b.trans q5
  replace hD3 := hD3.keepB hB5
  replace oE := hB5.obj oE
  replace oD := hB5.obj oD
  replace qa := qa.trans hB5
  have nI : I64 NN := by unfold I64; omega
  clear p0 p1 p2 cN cN8 q4 q5 hB5
  go_wp2_with fail
  go_loopw [15] (fun iv wr => ∃ i : Int, -1 ≤ i ∧ i ≤ NN + 1 ∧ iv = .int .i64 i ∧ B w5 wr) (fun iv _ => (NN + 2 - intOf iv).toNat)
  case atStart => exact ⟨-1, by omega, by omega, rfl, B.refl _⟩
  case round =>
    obtain ⟨i, hi1, hi2, rfl, hBi⟩ := hrel
    obtain ⟨wo, rfl⟩ : ∃ wo : World, wo = wr := ⟨_, rfl⟩
    have hDo := hD3.keepB hBi
    have oDo := hBi.obj oD
    have c0 : wo.cell? ⟨H, 0, none⟩ = some (.slice ao WS.length ac) := obj_cell oDo 0
    have c1 : wo.cell? ⟨H, 1, none⟩ = some (.slice bo TS.length bc) := obj_cell oDo 1
    have c2 : wo.cell? ⟨H, 2, none⟩ = some (.slice co FS.length cc) := obj_cell oDo 2
    by_cases hl : i ≤ NN
    · have hlB : decide (i ≤ NN) = true := decide_eq_true hl
      have wk1 : IntKind.i64.wrap (i + 1) = i + 1 := by rw [IntKind.wrap_i64]; omega
      have cAi := fun w h => cA (.slice ao WS.length ac) (.slice bo TS.length bc) (.slice co FS.length cc) w i (by unfold I64; omega) h
      have cA8i := fun w h => cA8 (.slice ao WS.length ac) (.slice bo TS.length bc) (.slice co FS.length cc) w i (by unfold I64; omega) h
      have hAi := hAt i
      cases hat : atW WD i with
      | none =>
        rw [hat] at cAi cA8i hAi
        have hAi' : (decide (0 ≤ i) && decide (i < NN)) = false := hAi.symm
        obtain ⟨J, hJ⟩ : ∃ J, (indexW WD 0 ⟨#[]⟩ 0 0).getD 0 = J := ⟨_, rfl⟩
        obtain ⟨JB, hJB⟩ : ∃ J, (indexW WD 0 ⟨#[]⟩ 0 0).isSome = J := ⟨_, rfl⟩
        have cIi := fun w h => cI (.slice ao WS.length ac) (.slice bo TS.length bc) (.slice co FS.length cc) w ⟨#[]⟩ 0 0 (by unfold I64; omega) (by unfold I64; omega) h
        rw [hJ, hJB] at cIi
        replace cAi : ∀ w, IsDk w (.slice ao WS.length ac) (.slice bo TS.length bc) (.slice co FS.length cc) ⟨WS, TS, FS⟩ → Calls Tryd.prog 16 #[.agg #[.slice ao WS.length ac, .slice bo TS.length bc, .slice co FS.length cc], .int .i64 i] w fun e w' => e = .returned (.tuple #[.agg #[.string ⟨#[]⟩, .int .i64 0, .int .i64 0], .bool false]) ∧ B w w' := cAi
        replace cA8i : ∀ w, IsDk w (.slice ao WS.length ac) (.slice bo TS.length bc) (.slice co FS.length cc) ⟨WS, TS, FS⟩ → Calls Tryd.prog 17 #[.agg #[.slice ao WS.length ac, .slice bo TS.length bc, .slice co FS.length cc], .int .i64 i] w fun e w' => e = .returned (.tuple #[.agg #[.string ⟨#[]⟩, .int .i64 0, .int .i64 0], .bool false]) ∧ B w w' := cA8i
        have HL := Lib.hid (And.intro hl (And.intro hBi hi1))
        have hor : decide (0 ≤ i) = false ∨ (decide (0 ≤ i) = true ∧ decide (i < NN) = false) := by
          cases h0 : decide (0 ≤ i)
          · exact .inl rfl
          · rw [h0, Bool.true_and] at hAi'
            exact .inr ⟨rfl, hAi'⟩
        clear hat hAi hAi' cA cA8 cI cI8 hAt hRg hIx hJ hJB hl hi1 hi2
        go_wp2_with fail
        refine (cAi _ hDo).mono ?_
        rintro _ w2 ⟨rfl, q2⟩
        have hD2 := (hDo.keepB q2).keepB ((B.refl _).alloc #[.string ⟨#[]⟩, .int .i64 0, .int .i64 0] 23)
        have oD2 := ((B.refl _).alloc #[.string ⟨#[]⟩, .int .i64 0, .int .i64 0] 23).obj (q2.obj oDo)
        have d0 : (w2.alloc (.cells #[.string ⟨#[]⟩, .int .i64 0, .int .i64 0] 23)).cell? ⟨H, 0, none⟩ = some (.slice ao WS.length ac) := obj_cell oD2 0
        have d1 : (w2.alloc (.cells #[.string ⟨#[]⟩, .int .i64 0, .int .i64 0] 23)).cell? ⟨H, 1, none⟩ = some (.slice bo TS.length bc) := obj_cell oD2 1
        have d2 : (w2.alloc (.cells #[.string ⟨#[]⟩, .int .i64 0, .int .i64 0] 23)).cell? ⟨H, 2, none⟩ = some (.slice co FS.length cc) := obj_cell oD2 2
        go_wp2_with fail
        refine (cA8i _ hD2).mono ?_
        rintro _ w3 ⟨rfl, q3⟩
        have hD4 := (hD2.keepB q3).keepB ((B.refl _).alloc #[.string ⟨#[]⟩, .int .i64 0, .int .i64 0] 23)
        have oD4 := ((B.refl _).alloc #[.string ⟨#[]⟩, .int .i64 0, .int .i64 0] 23).obj (q3.obj oD2)
        have oA := ((B.refl w3).alloc #[.string ⟨#[]⟩, .int .i64 0, .int .i64 0] 23).obj (q3.obj (obj_new w2 (.cells #[.string ⟨#[]⟩, .int .i64 0, .int .i64 0] 23)))
        have hlt := obj_lt (q3.obj (obj_new w2 (.cells #[.string ⟨#[]⟩, .int .i64 0, .int .i64 0] 23)))
        have hB4 := ((((hBi).trans q2).alloc #[.string ⟨#[]⟩, .int .i64 0, .int .i64 0] 23).trans q3).alloc #[.string ⟨#[]⟩, .int .i64 0, .int .i64 0] 23
        have hne : ¬ w2.heap.size = w3.heap.size := by omega
        have hne2 : ¬ w3.heap.size = w2.heap.size := by omega
        clear d0 d1 d2
        have e0 : (w3.alloc (.cells #[.string ⟨#[]⟩, .int .i64 0, .int .i64 0] 23)).cell? ⟨H, 0, none⟩ = some (.slice ao WS.length ac) := obj_cell oD4 0
        have e1 : (w3.alloc (.cells #[.string ⟨#[]⟩, .int .i64 0, .int .i64 0] 23)).cell? ⟨H, 1, none⟩ = some (.slice bo TS.length bc) := obj_cell oD4 1
        have e2 : (w3.alloc (.cells #[.string ⟨#[]⟩, .int .i64 0, .int .i64 0] 23)).cell? ⟨H, 2, none⟩ = some (.slice co FS.length cc) := obj_cell oD4 2
        have p0 : (w3.alloc (.cells #[.string ⟨#[]⟩, .int .i64 0, .int .i64 0] 23)).cell? ⟨w2.heap.size, 0, none⟩ = some (.string ⟨#[]⟩) := obj_cell oA 0
        have p1 : (w3.alloc (.cells #[.string ⟨#[]⟩, .int .i64 0, .int .i64 0] 23)).cell? ⟨w2.heap.size, 1, none⟩ = some (.int .i64 0) := obj_cell oA 1
        have p2 : (w3.alloc (.cells #[.string ⟨#[]⟩, .int .i64 0, .int .i64 0] 23)).cell? ⟨w2.heap.size, 2, none⟩ = some (.int .i64 0) := obj_cell oA 2
        clear q2 q3 hlt oA hD2 oD2 oD4
        rcases hor with o1 | ⟨o1, o2⟩
        all_goals
          go_wp2_with fail
          refine (cIi _ hD4).mono ?_
          rintro _ w6 ⟨rfl, q6⟩
          have HZ := Lib.hid (hB4.trans q6.b)
          go_wp2
          go_roundw
          case rel => exact ⟨i + 1, by have := HL.out.2.2; omega, by have := HL.out.1; omega, rfl, HZ.out⟩
          case measure => have := HL.out; simp [intOf]; omega

      | some nrc =>
        obtain ⟨N, R, C⟩ := nrc
        rw [hat] at cAi cA8i hAi
        have hx := hIx _ _ _ _ hat
        have hg := hRg _ _ _ _ hat
        have hAi' : (decide (0 ≤ i) && decide (i < NN)) = true := hAi.symm
        obtain ⟨s1, s2⟩ := Bool.and_eq_true_iff.1 hAi'
        have cIi := fun w h => cI (.slice ao WS.length ac) (.slice bo TS.length bc) (.slice co FS.length cc) w N R C (by unfold I64; omega) (by unfold I64; omega) h
        rw [hx] at cIi
        replace cIi : ∀ w, IsDk w (.slice ao WS.length ac) (.slice bo TS.length bc) (.slice co FS.length cc) ⟨WS, TS, FS⟩ → Calls Tryd.prog 18 #[.agg #[.slice ao WS.length ac, .slice bo TS.length bc, .slice co FS.length cc], .agg #[.string N, .int .i64 R, .int .i64 C]] w fun e w' => e = .returned (.tuple #[.int .i64 i, .bool true]) ∧ Q w w' := cIi
        replace cAi : ∀ w, IsDk w (.slice ao WS.length ac) (.slice bo TS.length bc) (.slice co FS.length cc) ⟨WS, TS, FS⟩ → Calls Tryd.prog 16 #[.agg #[.slice ao WS.length ac, .slice bo TS.length bc, .slice co FS.length cc], .int .i64 i] w fun e w' => e = .returned (.tuple #[.agg #[.string N, .int .i64 R, .int .i64 C], .bool true]) ∧ B w w' := cAi
        replace cA8i : ∀ w, IsDk w (.slice ao WS.length ac) (.slice bo TS.length bc) (.slice co FS.length cc) ⟨WS, TS, FS⟩ → Calls Tryd.prog 17 #[.agg #[.slice ao WS.length ac, .slice bo TS.length bc, .slice co FS.length cc], .int .i64 i] w fun e w' => e = .returned (.tuple #[.agg #[.string N, .int .i64 R, .int .i64 C], .bool true]) ∧ B w w' := cA8i
        have HL := Lib.hid (And.intro hl (And.intro hBi hi1))
        clear hat hAi hAi' cA cA8 cI cI8 hAt hRg hIx hx hg hl hi1 hi2
        go_wp2_with fail
        refine (cAi _ hDo).mono ?_
        rintro _ w2 ⟨rfl, q2⟩
        have hD2 := (hDo.keepB q2).keepB ((B.refl _).alloc #[.string N, .int .i64 R, .int .i64 C] 23)
        have oD2 := ((B.refl _).alloc #[.string N, .int .i64 R, .int .i64 C] 23).obj (q2.obj oDo)
        have d0 : (w2.alloc (.cells #[.string N, .int .i64 R, .int .i64 C] 23)).cell? ⟨H, 0, none⟩ = some (.slice ao WS.length ac) := obj_cell oD2 0
        have d1 : (w2.alloc (.cells #[.string N, .int .i64 R, .int .i64 C] 23)).cell? ⟨H, 1, none⟩ = some (.slice bo TS.length bc) := obj_cell oD2 1
        have d2 : (w2.alloc (.cells #[.string N, .int .i64 R, .int .i64 C] 23)).cell? ⟨H, 2, none⟩ = some (.slice co FS.length cc) := obj_cell oD2 2
        go_wp2_with fail
        refine (cA8i _ hD2).mono ?_
        rintro _ w3 ⟨rfl, q3⟩
        have hD4 := (hD2.keepB q3).keepB ((B.refl _).alloc #[.string N, .int .i64 R, .int .i64 C] 23)
        have oD4 := ((B.refl _).alloc #[.string N, .int .i64 R, .int .i64 C] 23).obj (q3.obj oD2)
        have oA := ((B.refl w3).alloc #[.string N, .int .i64 R, .int .i64 C] 23).obj (q3.obj (obj_new w2 (.cells #[.string N, .int .i64 R, .int .i64 C] 23)))
        have hlt := obj_lt (q3.obj (obj_new w2 (.cells #[.string N, .int .i64 R, .int .i64 C] 23)))
        have hB4 := ((((hBi).trans q2).alloc #[.string N, .int .i64 R, .int .i64 C] 23).trans q3).alloc #[.string N, .int .i64 R, .int .i64 C] 23
        have hne : ¬ w2.heap.size = w3.heap.size := by omega
        have hne2 : ¬ w3.heap.size = w2.heap.size := by omega
        clear d0 d1 d2
        have e0 : (w3.alloc (.cells #[.string N, .int .i64 R, .int .i64 C] 23)).cell? ⟨H, 0, none⟩ = some (.slice ao WS.length ac) := obj_cell oD4 0
        have e1 : (w3.alloc (.cells #[.string N, .int .i64 R, .int .i64 C] 23)).cell? ⟨H, 1, none⟩ = some (.slice bo TS.length bc) := obj_cell oD4 1
        have e2 : (w3.alloc (.cells #[.string N, .int .i64 R, .int .i64 C] 23)).cell? ⟨H, 2, none⟩ = some (.slice co FS.length cc) := obj_cell oD4 2
        have p0 : (w3.alloc (.cells #[.string N, .int .i64 R, .int .i64 C] 23)).cell? ⟨w2.heap.size, 0, none⟩ = some (.string N) := obj_cell oA 0
        have p1 : (w3.alloc (.cells #[.string N, .int .i64 R, .int .i64 C] 23)).cell? ⟨w2.heap.size, 1, none⟩ = some (.int .i64 R) := obj_cell oA 1
        have p2 : (w3.alloc (.cells #[.string N, .int .i64 R, .int .i64 C] 23)).cell? ⟨w2.heap.size, 2, none⟩ = some (.int .i64 C) := obj_cell oA 2
        clear q2 q3 hlt oA hD2 oD2 oD4
        go_wp2_with fail
        refine (cIi _ hD4).mono ?_
        rintro _ w6 ⟨rfl, q6⟩
        have HZ := Lib.hid (hB4.trans q6.b)
        go_wp2
        go_roundw
        case rel => exact ⟨i + 1, by have := HL.out.2.2; omega, by have := HL.out.1; omega, rfl, HZ.out⟩
        case measure => have := HL.out; simp [intOf]; omega

    · have hlB : decide (i ≤ NN) = false := decide_eq_false hl
      have oEo := hBi.obj oE
      have x0 : wo.cell? ⟨E, 0, none⟩ = some (.string WN) := obj_cell oEo 0
      have x1 : wo.cell? ⟨E, 1, none⟩ = some (.int .i64 r) := obj_cell oEo 1
      have x2 : wo.cell? ⟨E, 2, none⟩ = some (.int .i64 c9) := obj_cell oEo 2
      have hBo := qa.trans hBi
      clear hD3 oD oE qa hBi hl hi1 hi2 hAt hRg hIx hcn hna hwb c0 c1 c2
      have i7 : I64 (bits BinOp.and IntKind.i64 r 7) := ⟨bits_lo_i64 _ _ _, bits_hi_i64 _ _ _⟩
      have i15 : I64 (bits BinOp.and IntKind.i64 c9 15) := ⟨bits_lo_i64 _ _ _, bits_hi_i64 _ _ _⟩
      have ik : I64 (bits BinOp.and IntKind.i64 k 7) := ⟨bits_lo_i64 _ _ _, bits_hi_i64 _ _ _⟩
      go_wp2_with fail
      generalize bits BinOp.and IntKind.i64 r 7 = R7 at *
      generalize bits BinOp.and IntKind.i64 c9 15 = C15 at *
      generalize bits BinOp.and IntKind.i64 k 7 = K7 at *
      have hDl := hDo.keepB ((B.refl _).alloc #[.string WN, .int .i64 r, .int .i64 c9, .string ⟨#[112, 108, 97, 116, 101]⟩, .int .i64 R7, .int .i64 C15, .string ⟨#[116, 117, 98, 101]⟩, .int .i64 0, .int .i64 K7] 23)
      have oDl := ((B.refl _).alloc #[.string WN, .int .i64 r, .int .i64 c9, .string ⟨#[112, 108, 97, 116, 101]⟩, .int .i64 R7, .int .i64 C15, .string ⟨#[116, 117, 98, 101]⟩, .int .i64 0, .int .i64 K7] 23).obj oDo
      have oL := obj_new wo (.cells #[.string WN, .int .i64 r, .int .i64 c9, .string ⟨#[112, 108, 97, 116, 101]⟩, .int .i64 R7, .int .i64 C15, .string ⟨#[116, 117, 98, 101]⟩, .int .i64 0, .int .i64 K7] 23)
      have hBl := hBo.alloc #[.string WN, .int .i64 r, .int .i64 c9, .string ⟨#[112, 108, 97, 116, 101]⟩, .int .i64 R7, .int .i64 C15, .string ⟨#[116, 117, 98, 101]⟩, .int .i64 0, .int .i64 K7] 23
      clear hDo oDo hBo oEo x0 x1 x2
      generalize wo.alloc (.cells #[.string WN, .int .i64 r, .int .i64 c9, .string ⟨#[112, 108, 97, 116, 101]⟩, .int .i64 R7, .int .i64 C15, .string ⟨#[116, 117, 98, 101]⟩, .int .i64 0, .int .i64 K7] 23) = Wl at *
      generalize wo.heap.size = bL at *
      have HW : Hid (∀ j : Nat, j < 3 → ∃ N R C, Wl.cell? ⟨bL, j * 3, none⟩ = some (.string N) ∧ Wl.cell? ⟨bL, j * 3 + 1, none⟩ = some (.int .i64 R) ∧ Wl.cell? ⟨bL, j * 3 + 2, none⟩ = some (.int .i64 C) ∧ I64 R ∧ I64 C) := Lib.hid (fun j hj => by
        have : j = 0 ∨ j = 1 ∨ j = 2 := by omega
        rcases this with rfl | rfl | rfl
        · exact ⟨_, _, _, obj_cell oL 0, obj_cell oL 1, obj_cell oL 2, hr, hc9⟩
        · exact ⟨_, _, _, obj_cell oL 3, obj_cell oL 4, obj_cell oL 5, i7, i15⟩
        · exact ⟨_, _, _, obj_cell oL 6, obj_cell oL 7, obj_cell oL 8, ⟨by omega, by omega⟩, ik⟩)
      clear oL i7 i15 ik
      go_loopw [114] (fun iv wr => ∃ j : Nat, j ≤ 3 ∧ iv = .int .i64 j ∧ B Wl wr) (fun iv _ => 4 - (intOf iv).toNat)
      case atStart => exact ⟨0, by omega, rfl, B.refl _⟩
      case round =>
        obtain ⟨j, hj, rfl, hBj⟩ := hrel
        obtain ⟨wp, rfl⟩ : ∃ wp : World, wp = wr := ⟨_, rfl⟩
        have hDp := hDl.keepB hBj
        have oDp := hBj.obj oDl
        by_cases hl3 : j < 3
        · have jB : decide ((j : Int) < 3) = true := decide_eq_true (by omega)
          have jB' : decide (j < 3) = true := decide_eq_true hl3
          have jI : (j : Int) < 3 := by omega
          have j0 : (0 : Int) ≤ (j : Int) := by omega
          have wk1 : IntKind.i64.wrap ((j : Int) + 1) = (j : Int) + 1 := by rw [IntKind.wrap_i64]; omega
          obtain ⟨N, R, C, m0, m1, m2, bR, bC⟩ := HW.out j hl3
          replace m0 := hBj.keep m0
          replace m1 := hBj.keep m1
          replace m2 := hBj.keep m2
          have cIi := fun w h => cI (.slice ao WS.length ac) (.slice bo TS.length bc) (.slice co FS.length cc) w N R C bR bC h
          have cI8i := fun w h => cI8 (.slice ao WS.length ac) (.slice bo TS.length bc) (.slice co FS.length cc) w N R C h
          generalize (indexW WD 0 N R C).getD 0 = J at *
          generalize (indexW WD 0 N R C).isSome = JB at *
          have HL := Lib.hid (And.intro hl3 hBj)
          have hDq := hDp.keepB ((B.refl _).alloc #[.string N, .int .i64 R, .int .i64 C] 23)
          have oDq := ((B.refl _).alloc #[.string N, .int .i64 R, .int .i64 C] 23).obj oDp
          have oN := obj_new wp (.cells #[.string N, .int .i64 R, .int .i64 C] 23)
          have q9 := (B.refl wp).alloc #[.string N, .int .i64 R, .int .i64 C] 23
          obtain ⟨Wq, hWq⟩ : ∃ Wq, wp.alloc (.cells #[.string N, .int .i64 R, .int .i64 C] 23) = Wq := ⟨_, rfl⟩
          rw [hWq] at hDq oDq oN q9
          have d0 : Wq.cell? ⟨H, 0, none⟩ = some (.slice ao WS.length ac) := obj_cell oDq 0
          have d1 : Wq.cell? ⟨H, 1, none⟩ = some (.slice bo TS.length bc) := obj_cell oDq 1
          have d2 : Wq.cell? ⟨H, 2, none⟩ = some (.slice co FS.length cc) := obj_cell oDq 2
          have n0 : Wq.cell? ⟨wp.heap.size, 0, none⟩ = some (.string N) := obj_cell oN 0
          have n1 : Wq.cell? ⟨wp.heap.size, 1, none⟩ = some (.int .i64 R) := obj_cell oN 1
          have n2 : Wq.cell? ⟨wp.heap.size, 2, none⟩ = some (.int .i64 C) := obj_cell oN 2
          clear hl3 hj hBj hDp oDp hDl oDl cI cI8 cA cA8 hBl
          go_wp2_with fail
          try rw [hWq]
          go_wp2_with fail
          clear hWq
          refine (cIi _ hDq).mono ?_
          rintro _ w2 ⟨rfl, q2⟩
          replace hDq := hDq.keepB q2.b
          replace d0 := q2.keep d0
          replace d1 := q2.keep d1
          replace d2 := q2.keep d2
          replace n0 := q2.keep n0
          replace n1 := q2.keep n1
          replace n2 := q2.keep n2
          go_wp2_with fail
          refine (cI8i _ hDq).mono ?_
          rintro _ w3 ⟨rfl, q3⟩
          have HZ := Lib.hid ((q9.trans q2.b).trans q3.b)
          clear d0 d1 d2 n0 n1 n2 q9 q2 q3
          cases JB
          all_goals
            go_wp2
            go_roundw
            case rel => exact ⟨j + 1, by have := HL.out.1; omega, by go_num, HL.out.2.trans HZ.out⟩
            case measure => have := HL.out.1; simp [intOf]; omega
        · have jB : decide ((j : Int) < 3) = false := decide_eq_false (by omega)
          have jB' : decide (j < 3) = false := decide_eq_false hl3
          have cAi := fun w h => cA (.slice ao WS.length ac) (.slice bo TS.length bc) (.slice co FS.length cc) w k hk h
          have cA8i := fun w h => cA8 (.slice ao WS.length ac) (.slice bo TS.length bc) (.slice co FS.length cc) w k hk h
          have c0 : wp.cell? ⟨H, 0, none⟩ = some (.slice ao WS.length ac) := obj_cell oDp 0
          have c1 : wp.cell? ⟨H, 1, none⟩ = some (.slice bo TS.length bc) := obj_cell oDp 1
          have c2 : wp.cell? ⟨H, 2, none⟩ = some (.slice co FS.length cc) := obj_cell oDp 2
          have hBp := hBl.trans hBj
          have hDo := hDp
          have oDo := oDp
          clear hDl oDl hBl hBj hDp oDp HW hl3 hj cA cA8 cI cI8
          cases hat : atW WD k with
          | none =>
            rw [hat] at cAi cA8i
            replace cAi : ∀ w, IsDk w (.slice ao WS.length ac) (.slice bo TS.length bc) (.slice co FS.length cc) ⟨WS, TS, FS⟩ → Calls Tryd.prog 16 #[.agg #[.slice ao WS.length ac, .slice bo TS.length bc, .slice co FS.length cc], .int .i64 k] w fun e w' => e = .returned (.tuple #[.agg #[.string ⟨#[]⟩, .int .i64 0, .int .i64 0], .bool false]) ∧ B w w' := cAi
            replace cA8i : ∀ w, IsDk w (.slice ao WS.length ac) (.slice bo TS.length bc) (.slice co FS.length cc) ⟨WS, TS, FS⟩ → Calls Tryd.prog 17 #[.agg #[.slice ao WS.length ac, .slice bo TS.length bc, .slice co FS.length cc], .int .i64 k] w fun e w' => e = .returned (.tuple #[.agg #[.string ⟨#[]⟩, .int .i64 0, .int .i64 0], .bool false]) ∧ B w w' := cA8i
            clear hat
            go_wp2_with fail
            refine (cAi _ hDo).mono ?_
            rintro _ w2 ⟨rfl, q2⟩
            have hD2 := (hDo.keepB q2).keepB ((B.refl _).alloc #[.string ⟨#[]⟩, .int .i64 0, .int .i64 0] 23)
            have oD2 := ((B.refl _).alloc #[.string ⟨#[]⟩, .int .i64 0, .int .i64 0] 23).obj (q2.obj oDo)
            have d0 : (w2.alloc (.cells #[.string ⟨#[]⟩, .int .i64 0, .int .i64 0] 23)).cell? ⟨H, 0, none⟩ = some (.slice ao WS.length ac) := obj_cell oD2 0
            have d1 : (w2.alloc (.cells #[.string ⟨#[]⟩, .int .i64 0, .int .i64 0] 23)).cell? ⟨H, 1, none⟩ = some (.slice bo TS.length bc) := obj_cell oD2 1
            have d2 : (w2.alloc (.cells #[.string ⟨#[]⟩, .int .i64 0, .int .i64 0] 23)).cell? ⟨H, 2, none⟩ = some (.slice co FS.length cc) := obj_cell oD2 2
            go_wp2_with fail
            refine (cA8i _ hD2).mono ?_
            rintro _ w3 ⟨rfl, q3⟩
            have hD4 := (hD2.keepB q3).keepB ((B.refl _).alloc #[.string ⟨#[]⟩, .int .i64 0, .int .i64 0] 23)
            have oD4 := ((B.refl _).alloc #[.string ⟨#[]⟩, .int .i64 0, .int .i64 0] 23).obj (q3.obj oD2)
            have oA := ((B.refl w3).alloc #[.string ⟨#[]⟩, .int .i64 0, .int .i64 0] 23).obj (q3.obj (obj_new w2 (.cells #[.string ⟨#[]⟩, .int .i64 0, .int .i64 0] 23)))
            have hlt := obj_lt (q3.obj (obj_new w2 (.cells #[.string ⟨#[]⟩, .int .i64 0, .int .i64 0] 23)))
            have hB4 := ((((hBp).trans q2).alloc #[.string ⟨#[]⟩, .int .i64 0, .int .i64 0] 23).trans q3).alloc #[.string ⟨#[]⟩, .int .i64 0, .int .i64 0] 23
            have hne : ¬ w2.heap.size = w3.heap.size := by omega
            have hne2 : ¬ w3.heap.size = w2.heap.size := by omega
            clear d0 d1 d2
            have e0 : (w3.alloc (.cells #[.string ⟨#[]⟩, .int .i64 0, .int .i64 0] 23)).cell? ⟨H, 0, none⟩ = some (.slice ao WS.length ac) := obj_cell oD4 0
            have e1 : (w3.alloc (.cells #[.string ⟨#[]⟩, .int .i64 0, .int .i64 0] 23)).cell? ⟨H, 1, none⟩ = some (.slice bo TS.length bc) := obj_cell oD4 1
            have e2 : (w3.alloc (.cells #[.string ⟨#[]⟩, .int .i64 0, .int .i64 0] 23)).cell? ⟨H, 2, none⟩ = some (.slice co FS.length cc) := obj_cell oD4 2
            have p0 : (w3.alloc (.cells #[.string ⟨#[]⟩, .int .i64 0, .int .i64 0] 23)).cell? ⟨w2.heap.size, 0, none⟩ = some (.string ⟨#[]⟩) := obj_cell oA 0
            have p1 : (w3.alloc (.cells #[.string ⟨#[]⟩, .int .i64 0, .int .i64 0] 23)).cell? ⟨w2.heap.size, 1, none⟩ = some (.int .i64 0) := obj_cell oA 1
            have p2 : (w3.alloc (.cells #[.string ⟨#[]⟩, .int .i64 0, .int .i64 0] 23)).cell? ⟨w2.heap.size, 2, none⟩ = some (.int .i64 0) := obj_cell oA 2
            clear q2 q3 hlt oA hD2 oD2 oD4
            have HB := Lib.hid hB4
            clear hB4
            go_wp2
            go_ret
            exact ⟨rfl, HB.out⟩
          | some nrc =>
            obtain ⟨N, R, C⟩ := nrc
            rw [hat] at cAi cA8i
            replace cAi : ∀ w, IsDk w (.slice ao WS.length ac) (.slice bo TS.length bc) (.slice co FS.length cc) ⟨WS, TS, FS⟩ → Calls Tryd.prog 16 #[.agg #[.slice ao WS.length ac, .slice bo TS.length bc, .slice co FS.length cc], .int .i64 k] w fun e w' => e = .returned (.tuple #[.agg #[.string N, .int .i64 R, .int .i64 C], .bool true]) ∧ B w w' := cAi
            replace cA8i : ∀ w, IsDk w (.slice ao WS.length ac) (.slice bo TS.length bc) (.slice co FS.length cc) ⟨WS, TS, FS⟩ → Calls Tryd.prog 17 #[.agg #[.slice ao WS.length ac, .slice bo TS.length bc, .slice co FS.length cc], .int .i64 k] w fun e w' => e = .returned (.tuple #[.agg #[.string N, .int .i64 R, .int .i64 C], .bool true]) ∧ B w w' := cA8i
            clear hat
            go_wp2_with fail
            refine (cAi _ hDo).mono ?_
            rintro _ w2 ⟨rfl, q2⟩
            have hD2 := (hDo.keepB q2).keepB ((B.refl _).alloc #[.string N, .int .i64 R, .int .i64 C] 23)
            have oD2 := ((B.refl _).alloc #[.string N, .int .i64 R, .int .i64 C] 23).obj (q2.obj oDo)
            have d0 : (w2.alloc (.cells #[.string N, .int .i64 R, .int .i64 C] 23)).cell? ⟨H, 0, none⟩ = some (.slice ao WS.length ac) := obj_cell oD2 0
            have d1 : (w2.alloc (.cells #[.string N, .int .i64 R, .int .i64 C] 23)).cell? ⟨H, 1, none⟩ = some (.slice bo TS.length bc) := obj_cell oD2 1
            have d2 : (w2.alloc (.cells #[.string N, .int .i64 R, .int .i64 C] 23)).cell? ⟨H, 2, none⟩ = some (.slice co FS.length cc) := obj_cell oD2 2
            go_wp2_with fail
            refine (cA8i _ hD2).mono ?_
            rintro _ w3 ⟨rfl, q3⟩
            have hD4 := (hD2.keepB q3).keepB ((B.refl _).alloc #[.string N, .int .i64 R, .int .i64 C] 23)
            have oD4 := ((B.refl _).alloc #[.string N, .int .i64 R, .int .i64 C] 23).obj (q3.obj oD2)
            have oA := ((B.refl w3).alloc #[.string N, .int .i64 R, .int .i64 C] 23).obj (q3.obj (obj_new w2 (.cells #[.string N, .int .i64 R, .int .i64 C] 23)))
            have hlt := obj_lt (q3.obj (obj_new w2 (.cells #[.string N, .int .i64 R, .int .i64 C] 23)))
            have hB4 := ((((hBp).trans q2).alloc #[.string N, .int .i64 R, .int .i64 C] 23).trans q3).alloc #[.string N, .int .i64 R, .int .i64 C] 23
            have hne : ¬ w2.heap.size = w3.heap.size := by omega
            have hne2 : ¬ w3.heap.size = w2.heap.size := by omega
            clear d0 d1 d2
            have e0 : (w3.alloc (.cells #[.string N, .int .i64 R, .int .i64 C] 23)).cell? ⟨H, 0, none⟩ = some (.slice ao WS.length ac) := obj_cell oD4 0
            have e1 : (w3.alloc (.cells #[.string N, .int .i64 R, .int .i64 C] 23)).cell? ⟨H, 1, none⟩ = some (.slice bo TS.length bc) := obj_cell oD4 1
            have e2 : (w3.alloc (.cells #[.string N, .int .i64 R, .int .i64 C] 23)).cell? ⟨H, 2, none⟩ = some (.slice co FS.length cc) := obj_cell oD4 2
            have p0 : (w3.alloc (.cells #[.string N, .int .i64 R, .int .i64 C] 23)).cell? ⟨w2.heap.size, 0, none⟩ = some (.string N) := obj_cell oA 0
            have p1 : (w3.alloc (.cells #[.string N, .int .i64 R, .int .i64 C] 23)).cell? ⟨w2.heap.size, 1, none⟩ = some (.int .i64 R) := obj_cell oA 1
            have p2 : (w3.alloc (.cells #[.string N, .int .i64 R, .int .i64 C] 23)).cell? ⟨w2.heap.size, 2, none⟩ = some (.int .i64 C) := obj_cell oA 2
            clear q2 q3 hlt oA hD2 oD2 oD4
            have HB := Lib.hid hB4
            clear hB4
            go_wp2
            go_ret
            exact ⟨rfl, HB.out⟩
end Go.Proofs.YtjcpabppklkjpaaDoor
