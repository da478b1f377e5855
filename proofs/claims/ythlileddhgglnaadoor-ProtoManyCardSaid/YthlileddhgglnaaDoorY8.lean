/-
 Contracts and what they rest on.
-/
import Derived.Test.YthlileddhgglnaaDoorY7
namespace Go.Proofs.YthlileddhgglnaaDoor
open Go.RowKit
set_option linter.unusedVariables false
def codeP (c : Nat) : Int := if c = 0 then 110 else if c = 1 then 102 else if c = 2 then 119 else if c = 3 then 118 else 116
theorem tn_five {K : List (Option TypeId)} {base : Nat} {u w : World} (h : Tn K base u w) {b : Nat} (hb : u.heap.size ≤ b) (x0 x1 x2 x3 x4 : Value) :
  Tn K base u (((((w.setCell ⟨b, 0, none⟩ x0).setCell ⟨b, 1, none⟩ x1).setCell ⟨b, 2, none⟩ x2).setCell ⟨b, 3, none⟩ x3).setCell ⟨b, 4, none⟩ x4) :=
 ((((h.setNew (p := ⟨b, 0, none⟩) hb _).setNew (p := ⟨b, 1, none⟩) hb _).setNew (p := ⟨b, 2, none⟩) hb _).setNew (p := ⟨b, 3, none⟩) hb _).setNew (p := ⟨b, 4, none⟩) hb _
theorem row_five {w : World} {base : Nat} {e : TypeId} {size n : Nat} {v : Value} {xs : List Value} (h : w.ownsRow base e size v n xs) {b : Nat} {cs : Array Value} {t : TypeId} (ho : w.heap[b]? = some (.cells cs t (0, 0))) (ht : t ≠ e) (x0 x1 x2 x3 x4 : Value) :
  (((((w.setCell ⟨b, 0, none⟩ x0).setCell ⟨b, 1, none⟩ x1).setCell ⟨b, 2, none⟩ x2).setCell ⟨b, 3, none⟩ x3).setCell ⟨b, 4, none⟩ x4).ownsRow base e size v n xs :=
 ownsRow_set (ownsRow_set (ownsRow_set (ownsRow_set (ownsRow_set h ho ht 0 x0) (obj_set ho 0 _) ht 1 x1) (obj_set (obj_set ho 0 _) 1 _) ht 2 x2) (obj_set (obj_set (obj_set ho 0 _) 1 _) 2 _) ht 3 x3) (obj_set (obj_set (obj_set (obj_set ho 0 _) 1 _) 2 _) 3 _) ht 4 x4
def WordRes (s : Sp) (c : Nat) (t : List UInt8) (Wb w : World) (e : Ending) (w' : World) : Prop :=
 ∃ (s' : Sp) (wv' : Value), e = .returned (.tuple #[.agg #[.int .i64 s'.k, .string s'.n, wv', .int .i64 s'.v, .int .i64 s'.m], .int .i64 (((takeP s c t).2 : Nat) : Int)]) ∧ w'.ownsRow Wb.heap.size 49 3 wv' s'.w.length (flatWp s'.w) ∧ ((takeP s c t).2 = 0 → s' = (takeP s c t).1) ∧ Tn kWl Wb.heap.size w w'
set_option maxRecDepth 100000 in
set_option maxHeartbeats 4000000 in
theorem r8word_any (Wb w : World) (hB : B Wb w) (s : Sp) (wv : Value) (c : Nat) (hc : c ≤ 4) (t : List UInt8) (ht : t.length ≤ 65536) (hr : w.ownsRow Wb.heap.size 49 3 wv s.w.length (flatWp s.w)) (hl : s.w.length ≤ 1000) :
  Calls Tryd.prog 43 #[.agg #[.int .i64 s.k, .string s.n, wv, .int .i64 s.v, .int .i64 s.m], .int .u8 (codeP c), .string (strB t)] w (WordRes s c t Wb w) := by
 obtain ⟨i0, hi0, hz0, hz1, hz2⟩ := info_of wellInfoP
 obtain ⟨K, N, WS, V, M⟩ := s
 simp only at hr hl ⊢
 obtain ⟨so, sc, rfl⟩ := own_slice hr
 obtain ⟨TS, hTS⟩ : ∃ TS, strB t = TS := ⟨_, rfl⟩
 obtain ⟨wl, hwl⟩ : ∃ wl, WS.length = wl := ⟨_, rfl⟩
 have HR : Hid (w.ownsRow Wb.heap.size 49 3 (.slice so wl sc) WS.length (flatWp WS)) := Lib.hid (by rw [← hwl]; exact hr)
 rw [hwl, hTS]
 rw [hwl] at hl
 have HWL := Lib.hid hwl
 have HB := Lib.hid hB
 have h5 : c = 0 ∨ c = 1 ∨ c = 2 ∨ c = 3 ∨ c = 4 := by omega
 clear hr hB hwl hc
 rcases h5 with rfl | rfl | rfl | rfl | rfl
 ·have hT : takeP ⟨K, N, WS, V, M⟩ 0 t = (⟨K, TS, WS, V, M⟩, if nameS TS then 0 else 25) := by rw [← hTS]; rfl
  have c1 := fun w => r8name_any TS w
  generalize nameS TS = ok at *
  rw [show codeP 0 = 110 from rfl]
  clear hTS ht
  cases ok
  ·have HT : Hid (takeP ⟨K, N, WS, V, M⟩ 0 t = (⟨K, TS, WS, V, M⟩, 25)) := Lib.hid (by rw [hT]; rfl)
   clear hT
   go_enter Tryd.func43, Tryd.ntmps43
   go_wp2_with fail
   refine (Calls.mono (c1 _) ?_)
   rintro _ w2 ⟨rfl, rfl⟩
   clear c1
   go_wp2
   exact bodyPost_ret (v := .tuple #[.agg #[.int .i64 K, .string TS, .slice so wl sc, .int .i64 V, .int .i64 M], .int .i64 25]) (by simp [results, Tryd.results43, go_sem]) rfl ⟨⟨K, TS, WS, V, M⟩, .slice so wl sc, (by rw [HT.out]; rfl), row_keep HR.out (((B.refl _).alloc _ _).alloc _ _), (fun h => (by rw [HT.out] at h; cases h)), (((B.refl _).alloc _ _).alloc _ _).tn _ _⟩
  ·have HT : Hid (takeP ⟨K, N, WS, V, M⟩ 0 t = (⟨K, TS, WS, V, M⟩, 0)) := Lib.hid (by rw [hT]; rfl)
   clear hT
   go_enter Tryd.func43, Tryd.ntmps43
   go_wp2_with fail
   refine (Calls.mono (c1 _) ?_)
   rintro _ w2 ⟨rfl, rfl⟩
   clear c1
   go_wp2
   exact bodyPost_ret (v := .tuple #[.agg #[.int .i64 K, .string TS, .slice so wl sc, .int .i64 V, .int .i64 M], .int .i64 0]) (by simp [results, Tryd.results43, go_sem]) rfl ⟨⟨K, TS, WS, V, M⟩, .slice so wl sc, (by rw [HT.out]; rfl), row_keep HR.out (((B.refl _).alloc _ _).alloc _ _), (fun h => (by rw [HT.out])), (((B.refl _).alloc _ _).alloc _ _).tn _ _⟩
 ·rw [show codeP 1 = 102 from rfl]
  by_cases hk : t = kEach
  ·have e1 : (TS.toList == [101, 97, 99, 104]) = true := by rw [← hTS, strB_lst, hk]; rfl
   have HT : Hid (takeP ⟨K, N, WS, V, M⟩ 1 t = (⟨K, N, WS, V, 1⟩, 0)) := Lib.hid (by show (if t = kEach then _ else _, 0) = _; rw [if_pos hk])
   clear hTS hk ht
   go_enter Tryd.func43, Tryd.ntmps43
   go_wp2
   exact bodyPost_ret (v := .tuple #[.agg #[.int .i64 K, .string N, .slice so wl sc, .int .i64 V, .int .i64 1], .int .i64 0]) (by simp [results, Tryd.results43, go_sem]) rfl ⟨⟨K, N, WS, V, 1⟩, .slice so wl sc, (by rw [HT.out]; rfl), row_keep HR.out (((B.refl _).alloc _ _).alloc _ _), (fun h => (by rw [HT.out])), (((B.refl _).alloc _ _).alloc _ _).tn _ _⟩
  ·have e1 : (TS.toList == [101, 97, 99, 104]) = false := by rw [← hTS, strB_lst, beq_eq_false_iff_ne]; exact hk
   have HT : Hid (takeP ⟨K, N, WS, V, M⟩ 1 t = (⟨K, N, WS, V, M⟩, 0)) := Lib.hid (by show (if t = kEach then _ else _, 0) = _; rw [if_neg hk])
   clear hTS hk ht
   go_enter Tryd.func43, Tryd.ntmps43
   go_wp2
   exact bodyPost_ret (v := .tuple #[.agg #[.int .i64 K, .string N, .slice so wl sc, .int .i64 V, .int .i64 M], .int .i64 0]) (by simp [results, Tryd.results43, go_sem]) rfl ⟨⟨K, N, WS, V, M⟩, .slice so wl sc, (by rw [HT.out]; rfl), row_keep HR.out (((B.refl _).alloc _ _).alloc _ _), (fun h => (by rw [HT.out])), (((B.refl _).alloc _ _).alloc _ _).tn _ _⟩
 ·rw [show codeP 2 = 119 from rfl]
  have q0 : B w ((w.alloc (.cells #[.int .i64 K, .string N, .slice so wl sc, .int .i64 V, .int .i64 M] 47)).alloc (.cells #[.int .i64 0, .string ⟨#[]⟩, .slice none 0 0, .int .i64 0, .int .i64 0] 47)) := ((B.refl _).alloc _ _).alloc _ _
  have oS := obj_past (obj_new w (.cells #[.int .i64 K, .string N, .slice so wl sc, .int .i64 V, .int .i64 M] 47)) (.cells #[.int .i64 0, .string ⟨#[]⟩, .slice none 0 0, .int .i64 0, .int .i64 0] 47)
  have oR := obj_new (w.alloc (.cells #[.int .i64 K, .string N, .slice so wl sc, .int .i64 V, .int .i64 M] 47)) (.cells #[.int .i64 0, .string ⟨#[]⟩, .slice none 0 0, .int .i64 0, .int .i64 0] 47)
  rw [show (w.alloc (.cells #[.int .i64 K, .string N, .slice so wl sc, .int .i64 V, .int .i64 M] 47)).heap.size = w.heap.size + 1 by simp] at oR
  have c1 := r8well_any t ((w.alloc (.cells #[.int .i64 K, .string N, .slice so wl sc, .int .i64 V, .int .i64 M] 47)).alloc (.cells #[.int .i64 0, .string ⟨#[]⟩, .slice none 0 0, .int .i64 0, .int .i64 0] 47)) ht
  rw [hTS] at c1
  have hSR : ¬ w.heap.size = w.heap.size + 1 := by omega
  have hRS : ¬ w.heap.size + 1 = w.heap.size := by omega
  have hRw' : w.heap.size < w.heap.size + 1 := by omega
  clear hTS ht
  go_enter Tryd.func43, Tryd.ntmps43
  go_wp2_with fail
  generalize ((w.alloc (.cells #[.int .i64 K, .string N, .slice so wl sc, .int .i64 V, .int .i64 M] 47)).alloc (.cells #[.int .i64 0, .string ⟨#[]⟩, .slice none 0 0, .int .i64 0, .int .i64 0] 47)) = W0 at *
  generalize hRb : w.heap.size + 1 = R at *
  obtain ⟨S, hSb⟩ : ∃ S, w.heap.size = S := ⟨_, rfl⟩
  rw [hSb] at oS hSR hRS ⊢
  have hRw : w.heap.size < R := hRw'
  have HSb := Lib.hid hSb
  clear hRw' hRb hSb
  refine (Calls.mono c1 ?_)
  clear c1
  rintro e w1 (⟨wn, wr, wc, hwl9, rfl, q1⟩ | ⟨hwl9, rfl, q1⟩)
  ·have HT : Hid (takeP ⟨K, N, WS, V, M⟩ 2 t = (⟨K, N, WS ++ [⟨strB wn, (wr : Int), (wc : Int)⟩], V, M⟩, 0)) := Lib.hid (by show (match wellL t with | some (n, r, q) => _ | none => _) = _; rw [hwl9])
   have q2 : B w ((w1.alloc (.cells #[.string (strB wn), .int .i64 (wr : Int), .int .i64 (wc : Int)] 49)).alloc (.cells #[.string (strB wn), .int .i64 (wr : Int), .int .i64 (wc : Int)] 49)) := ((q0.trans q1).alloc _ _).alloc _ _
   have q12 : B w1 ((w1.alloc (.cells #[.string (strB wn), .int .i64 (wr : Int), .int .i64 (wc : Int)] 49)).alloc (.cells #[.string (strB wn), .int .i64 (wr : Int), .int .i64 (wc : Int)] 49)) := ((B.refl _).alloc _ _).alloc _ _
   have oS2 := q12.obj (q1.obj oS)
   have oR2 := q12.obj (q1.obj oR)
   have oS1 := ((B.refl w1).alloc #[.string (strB wn), .int .i64 (wr : Int), .int .i64 (wc : Int)] 49).obj (q1.obj oS)
   have x2 : (w1.alloc (.cells #[.string (strB wn), .int .i64 (wr : Int), .int .i64 (wc : Int)] 49)).cell? ⟨S, 2, none⟩ = some (.slice so wl sc) := obj_cell oS1 2
   have hSw : S < w1.heap.size := obj_lt (q1.obj oS)
   have hSn : ¬ S = w1.heap.size := by omega
   have hSm : ¬ w1.heap.size = S := by omega
   have own2 := row_keep HR.out q2
   rw [HWL.out] at own2
   have hb2 : Wb.heap.size ≤ ((w1.alloc (.cells #[.string (strB wn), .int .i64 (wr : Int), .int .i64 (wc : Int)] 49)).alloc (.cells #[.string (strB wn), .int .i64 (wr : Int), .int .i64 (wc : Int)] 49)).heap.size := by have := q2.below.size; have := HB.out.below.size; omega
   have HX := Lib.hid (And.intro q2 (And.intro oS2 oR2))
   clear q2 q12 oS2 oR2 q0 oS oR q1 hwl9 oS1
   go_wp2_with (at_builtin; refine wpList_append_lies _ rfl _ _ 45 rfl Wb.heap.size 49 i0 _ 3 32 Tryd.underlying45 hi0 hz0 hz1 hz2 rfl (by omega) (.slice so wl sc) wl (flatWp WS) rfl own2 ⟨_, 0, none⟩ 1 1 [.string (strB wn), .int .i64 (wr : Int), .int .i64 (wc : Int)] rfl rfl (newest (by simp)) (fun u hu => by simp only [List.mem_cons, List.not_mem_nil, or_false] at hu; rcases hu with rfl | rfl | rfl <;> rfl) (by omega) (by unfold maxLen; omega) (by omega) hb2 _ rfl ?_; intro gN cN W9 hown9 hgrow9 hat9 hlt9; have oS9 := obj_grown hgrow9 HX.out.2.1 (far_ownU HX.out.2.1 own2 (by decide)); have oR9 := obj_grown hgrow9 HX.out.2.2 (far_ownU HX.out.2.2 own2 (by decide)); have T9 : Tn kWl Wb.heap.size w W9 := Tn.appended (HX.out.1.tn _ _) own2 hgrow9 (Nat.le_refl _) (by decide); clear hgrow9 hat9 hlt9 own2 hb2 x2; have s0 := obj_cell oS9 0; have s1 := obj_cell oS9 1; have s2 := obj_cell oS9 2; have s3 := obj_cell oS9 3; have s4 := obj_cell oS9 4; have sf := obj_free oS9 2; have r0 := obj_cell oR9 0; have r1 := obj_cell oR9 1; have r2 := obj_cell oR9 2; have r3 := obj_cell oR9 3; have r4 := obj_cell oR9 4; have g0 := obj_free oR9 0; have g1 := obj_free oR9 1; have g2 := obj_free oR9 2; have g3 := obj_free oR9 3; have g4 := obj_free oR9 4; simp only [List.getElem?_toArray, List.getElem?_cons_zero, List.getElem?_cons_succ] at s0 s1 s2 s3 s4 r0 r1 r2 r3 r4; go_wp2_with fail)
   have hN : W9.ownsRow Wb.heap.size 49 3 (.slice (some ⟨gN, 0, none⟩) (wl + 1) cN) (WS ++ [(⟨strB wn, (wr : Int), (wc : Int)⟩ : Wp)]).length (flatWp (WS ++ [⟨strB wn, (wr : Int), (wc : Int)⟩])) := by
    rw [flatWp_snoc, List.length_append, HWL.out]
    exact hown9
   have T1 : Tn kWl Wb.heap.size w (W9.setCell ⟨S, 2, none⟩ (.slice (some ⟨gN, 0, none⟩) (wl + 1) cN)) := T9.setNew (p := ⟨S, 2, none⟩) (Nat.le_of_eq HSb.out) _
   have hN1 := ownsRow_set hN oS9 (by decide) 2 (.slice (some ⟨gN, 0, none⟩) (wl + 1) cN)
   have oR1 : (W9.setCell ⟨S, 2, none⟩ (.slice (some ⟨gN, 0, none⟩) (wl + 1) cN)).heap[R]? = some (.cells #[.int .i64 0, .string ⟨#[]⟩, .slice none 0 0, .int .i64 0, .int .i64 0] 47 (0, 0)) := (Below.heap_setCell W9 ⟨S, 2, none⟩ _ R hRS).trans oR9
   generalize W9.setCell ⟨S, 2, none⟩ (.slice (some ⟨gN, 0, none⟩) (wl + 1) cN) = W1 at *
   clear s0 s1 s2 s3 s4 sf r0 r1 r2 r3 r4 g0 g1 g2 g3 g4 oS9 oR9 T9 hN hown9
   have ob6 := obj_five oR1 (.int .i64 K) (.string N) (.slice (some ⟨gN, 0, none⟩) (wl + 1) cN) (.int .i64 V) (.int .i64 M)
   have HR6 := Lib.hid (row_five hN1 oR1 (by decide) (.int .i64 K) (.string N) (.slice (some ⟨gN, 0, none⟩) (wl + 1) cN) (.int .i64 V) (.int .i64 M))
   have T6 := tn_five T1 (Nat.le_of_lt hRw) (.int .i64 K) (.string N) (.slice (some ⟨gN, 0, none⟩) (wl + 1) cN) (.int .i64 V) (.int .i64 M)
   generalize (((((W1.setCell ⟨R, 0, none⟩ (.int .i64 K)).setCell ⟨R, 1, none⟩ (.string N)).setCell ⟨R, 2, none⟩ (.slice (some ⟨gN, 0, none⟩) (wl + 1) cN)).setCell ⟨R, 3, none⟩ (.int .i64 V)).setCell ⟨R, 4, none⟩ (.int .i64 M)) = W6 at *
   have d0 := obj_cell ob6 0
   have d1 := obj_cell ob6 1
   have d2 := obj_cell ob6 2
   have d3 := obj_cell ob6 3
   have d4 := obj_cell ob6 4
   simp only [List.getElem?_toArray, List.getElem?_cons_zero, List.getElem?_cons_succ] at d0 d1 d2 d3 d4
   exact bodyPost_ret (v := .tuple #[.agg #[.int .i64 K, .string N, .slice (some ⟨gN, 0, none⟩) (wl + 1) cN, .int .i64 V, .int .i64 M], .int .i64 0]) (by simp [results, Tryd.results43, go_sem, d0, d1, d2, d3, d4]) rfl ⟨⟨K, N, WS ++ [⟨strB wn, (wr : Int), (wc : Int)⟩], V, M⟩, .slice (some ⟨gN, 0, none⟩) (wl + 1) cN, (by rw [HT.out]; rfl), HR6.out, (fun h => (by rw [HT.out])), T6⟩
  ·have HT : Hid (takeP ⟨K, N, WS, V, M⟩ 2 t = (⟨K, N, WS, V, M⟩, 26)) := Lib.hid (by show (match wellL t with | some (n, r, q) => _ | none => _) = _; rw [hwl9])
   have q2 : B w w1 := q0.trans q1
   have oS2 := q1.obj oS
   have oR2 := q1.obj oR
   have hSw : S < w1.heap.size := obj_lt oS2
   have hSn : ¬ S = w1.heap.size := by omega
   have hSm : ¬ w1.heap.size = S := by omega
   have hRw1 : R < w1.heap.size := obj_lt oR2
   have hRn : ¬ R = w1.heap.size := by omega
   have hRm : ¬ w1.heap.size = R := by omega
   have T9 : Tn kWl Wb.heap.size w w1 := q2.tn _ _
   have hN := row_keep HR.out q2
   have s0 := obj_cell oS2 0
   have sf0 := obj_free oS2 0
   have s1 := obj_cell oS2 1
   have sf1 := obj_free oS2 1
   have s2 := obj_cell oS2 2
   have sf2 := obj_free oS2 2
   have s3 := obj_cell oS2 3
   have sf3 := obj_free oS2 3
   have s4 := obj_cell oS2 4
   have sf4 := obj_free oS2 4
   simp only [List.getElem?_toArray, List.getElem?_cons_zero, List.getElem?_cons_succ] at s0 s1 s2 s3 s4
   have r0 := obj_cell oR2 0
   have g0 := obj_free oR2 0
   have r1 := obj_cell oR2 1
   have g1 := obj_free oR2 1
   have r2 := obj_cell oR2 2
   have g2 := obj_free oR2 2
   have r3 := obj_cell oR2 3
   have g3 := obj_free oR2 3
   have r4 := obj_cell oR2 4
   have g4 := obj_free oR2 4
   simp only [List.getElem?_toArray, List.getElem?_cons_zero, List.getElem?_cons_succ] at r0 r1 r2 r3 r4
   clear q0 oS oR q1 hwl9 q2 oS2
   go_wp2_with fail
   have ob6 := obj_five oR2 (.int .i64 K) (.string N) (.slice so wl sc) (.int .i64 V) (.int .i64 M)
   have HR6 := Lib.hid (row_five hN oR2 (by decide) (.int .i64 K) (.string N) (.slice so wl sc) (.int .i64 V) (.int .i64 M))
   have T6 := tn_five T9 (Nat.le_of_lt hRw) (.int .i64 K) (.string N) (.slice so wl sc) (.int .i64 V) (.int .i64 M)
   generalize (((((w1.setCell ⟨R, 0, none⟩ (.int .i64 K)).setCell ⟨R, 1, none⟩ (.string N)).setCell ⟨R, 2, none⟩ (.slice so wl sc)).setCell ⟨R, 3, none⟩ (.int .i64 V)).setCell ⟨R, 4, none⟩ (.int .i64 M)) = W6 at *
   have oZ := ((B.refl W6).alloc #[.string ⟨#[]⟩, .int .i64 0, .int .i64 0] 49).obj ob6
   have d0 := obj_cell oZ 0
   have d1 := obj_cell oZ 1
   have d2 := obj_cell oZ 2
   have d3 := obj_cell oZ 3
   have d4 := obj_cell oZ 4
   simp only [List.getElem?_toArray, List.getElem?_cons_zero, List.getElem?_cons_succ] at d0 d1 d2 d3 d4
   exact bodyPost_ret (v := .tuple #[.agg #[.int .i64 K, .string N, .slice so wl sc, .int .i64 V, .int .i64 M], .int .i64 26]) (by simp [results, Tryd.results43, go_sem, d0, d1, d2, d3, d4]) rfl ⟨⟨K, N, WS, V, M⟩, .slice so wl sc, (by rw [HT.out]; rfl), row_keep HR6.out ((B.refl _).alloc _ _), (fun h => (by rw [HT.out] at h; cases h)), T6.alloc _ _⟩
 ·have hT : takeP ⟨K, N, WS, V, M⟩ 3 t = if numP 20000000 t then (⟨K, N, WS, ((numV TS : Nat) : Int), M⟩, 0) else (⟨K, N, WS, V, M⟩, 20) := by rw [← hTS]; rfl
  have hnp : numP 20000000 t = (numOk TS && (decide (1 ≤ numV TS) && decide (numV TS ≤ 20000000))) := by unfold numP; rw [hTS, Bool.and_assoc]
  rw [hnp] at hT
  have c1 := fun w => r8number_any TS w
  have c2 := fun w => r8in_any ((numV TS : Nat) : Int) 1 20000000 w
  have e9 : inB ((numV TS : Nat) : Int) 1 20000000 = (decide (1 ≤ numV TS) && decide (numV TS ≤ 20000000)) := by
   unfold inB
   congr 1
   ·by_cases h : 1 ≤ numV TS <;> simp [h] <;> omega
   ·by_cases h : numV TS ≤ 20000000 <;> simp [h] <;> omega
  rw [e9] at c2
  generalize (decide (1 ≤ numV TS) && decide (numV TS ≤ 20000000)) = inq at *
  generalize numOk TS = ok at *
  generalize numV TS = NV at *
  rw [show codeP 3 = 118 from rfl]
  clear hTS hnp e9 ht
  cases ok
  ·have HT : Hid (takeP ⟨K, N, WS, V, M⟩ 3 t = (⟨K, N, WS, V, M⟩, 20)) := Lib.hid (by rw [hT]; rfl)
   clear hT c2
   go_enter Tryd.func43, Tryd.ntmps43
   go_wp2_with fail
   refine (Calls.mono (c1 _) ?_)
   rintro _ w2 ⟨rfl, rfl⟩
   clear c1
   go_wp2
   exact bodyPost_ret (v := .tuple #[.agg #[.int .i64 K, .string N, .slice so wl sc, .int .i64 V, .int .i64 M], .int .i64 20]) (by simp [results, Tryd.results43, go_sem]) rfl ⟨⟨K, N, WS, V, M⟩, .slice so wl sc, (by rw [HT.out]; rfl), row_keep HR.out (((B.refl _).alloc _ _).alloc _ _), (fun h => (by rw [HT.out] at h; cases h)), (((B.refl _).alloc _ _).alloc _ _).tn _ _⟩
  ·cases inq
   ·have HT : Hid (takeP ⟨K, N, WS, V, M⟩ 3 t = (⟨K, N, WS, V, M⟩, 20)) := Lib.hid (by rw [hT]; rfl)
    clear hT
    go_enter Tryd.func43, Tryd.ntmps43
    go_wp2_with fail
    refine (Calls.mono (c1 _) ?_)
    rintro _ w2 ⟨rfl, rfl⟩
    clear c1
    go_wp2_with fail
    refine (Calls.mono (c2 _) ?_)
    rintro _ w3 ⟨rfl, rfl⟩
    clear c2
    go_wp2
    exact bodyPost_ret (v := .tuple #[.agg #[.int .i64 K, .string N, .slice so wl sc, .int .i64 V, .int .i64 M], .int .i64 20]) (by simp [results, Tryd.results43, go_sem]) rfl ⟨⟨K, N, WS, V, M⟩, .slice so wl sc, (by rw [HT.out]; rfl), row_keep HR.out (((B.refl _).alloc _ _).alloc _ _), (fun h => (by rw [HT.out] at h; cases h)), (((B.refl _).alloc _ _).alloc _ _).tn _ _⟩
   ·have HT : Hid (takeP ⟨K, N, WS, V, M⟩ 3 t = (⟨K, N, WS, (NV : Int), M⟩, 0)) := Lib.hid (by rw [hT]; rfl)
    clear hT
    go_enter Tryd.func43, Tryd.ntmps43
    go_wp2_with fail
    refine (Calls.mono (c1 _) ?_)
    rintro _ w2 ⟨rfl, rfl⟩
    clear c1
    go_wp2_with fail
    refine (Calls.mono (c2 _) ?_)
    rintro _ w3 ⟨rfl, rfl⟩
    clear c2
    go_wp2
    exact bodyPost_ret (v := .tuple #[.agg #[.int .i64 K, .string N, .slice so wl sc, .int .i64 (NV : Int), .int .i64 M], .int .i64 0]) (by simp [results, Tryd.results43, go_sem]) rfl ⟨⟨K, N, WS, (NV : Int), M⟩, .slice so wl sc, (by rw [HT.out]; rfl), row_keep HR.out (((B.refl _).alloc _ _).alloc _ _), (fun h => (by rw [HT.out])), (((B.refl _).alloc _ _).alloc _ _).tn _ _⟩
 ·have hT : takeP ⟨K, N, WS, V, M⟩ 4 t = if numP 20 t then (⟨K, N, WS, V, ((numV TS : Nat) : Int)⟩, 0) else (⟨K, N, WS, V, M⟩, 20) := by rw [← hTS]; rfl
  have hnp : numP 20 t = (numOk TS && (decide (1 ≤ numV TS) && decide (numV TS ≤ 20))) := by unfold numP; rw [hTS, Bool.and_assoc]
  rw [hnp] at hT
  have c1 := fun w => r8number_any TS w
  have c2 := fun w => r8in_any ((numV TS : Nat) : Int) 1 20 w
  have e9 : inB ((numV TS : Nat) : Int) 1 20 = (decide (1 ≤ numV TS) && decide (numV TS ≤ 20)) := by
   unfold inB
   congr 1
   ·by_cases h : 1 ≤ numV TS <;> simp [h] <;> omega
   ·by_cases h : numV TS ≤ 20 <;> simp [h] <;> omega
  rw [e9] at c2
  generalize (decide (1 ≤ numV TS) && decide (numV TS ≤ 20)) = inq at *
  generalize numOk TS = ok at *
  generalize numV TS = NV at *
  rw [show codeP 4 = 116 from rfl]
  clear hTS hnp e9 ht
  cases ok
  ·have HT : Hid (takeP ⟨K, N, WS, V, M⟩ 4 t = (⟨K, N, WS, V, M⟩, 20)) := Lib.hid (by rw [hT]; rfl)
   clear hT c2
   go_enter Tryd.func43, Tryd.ntmps43
   go_wp2_with fail
   refine (Calls.mono (c1 _) ?_)
   rintro _ w2 ⟨rfl, rfl⟩
   clear c1
   go_wp2
   exact bodyPost_ret (v := .tuple #[.agg #[.int .i64 K, .string N, .slice so wl sc, .int .i64 V, .int .i64 M], .int .i64 20]) (by simp [results, Tryd.results43, go_sem]) rfl ⟨⟨K, N, WS, V, M⟩, .slice so wl sc, (by rw [HT.out]; rfl), row_keep HR.out (((B.refl _).alloc _ _).alloc _ _), (fun h => (by rw [HT.out] at h; cases h)), (((B.refl _).alloc _ _).alloc _ _).tn _ _⟩
  ·cases inq
   ·have HT : Hid (takeP ⟨K, N, WS, V, M⟩ 4 t = (⟨K, N, WS, V, M⟩, 20)) := Lib.hid (by rw [hT]; rfl)
    clear hT
    go_enter Tryd.func43, Tryd.ntmps43
    go_wp2_with fail
    refine (Calls.mono (c1 _) ?_)
    rintro _ w2 ⟨rfl, rfl⟩
    clear c1
    go_wp2_with fail
    refine (Calls.mono (c2 _) ?_)
    rintro _ w3 ⟨rfl, rfl⟩
    clear c2
    go_wp2
    exact bodyPost_ret (v := .tuple #[.agg #[.int .i64 K, .string N, .slice so wl sc, .int .i64 V, .int .i64 M], .int .i64 20]) (by simp [results, Tryd.results43, go_sem]) rfl ⟨⟨K, N, WS, V, M⟩, .slice so wl sc, (by rw [HT.out]; rfl), row_keep HR.out (((B.refl _).alloc _ _).alloc _ _), (fun h => (by rw [HT.out] at h; cases h)), (((B.refl _).alloc _ _).alloc _ _).tn _ _⟩
   ·have HT : Hid (takeP ⟨K, N, WS, V, M⟩ 4 t = (⟨K, N, WS, V, (NV : Int)⟩, 0)) := Lib.hid (by rw [hT]; rfl)
    clear hT
    go_enter Tryd.func43, Tryd.ntmps43
    go_wp2_with fail
    refine (Calls.mono (c1 _) ?_)
    rintro _ w2 ⟨rfl, rfl⟩
    clear c1
    go_wp2_with fail
    refine (Calls.mono (c2 _) ?_)
    rintro _ w3 ⟨rfl, rfl⟩
    clear c2
    go_wp2
    exact bodyPost_ret (v := .tuple #[.agg #[.int .i64 K, .string N, .slice so wl sc, .int .i64 V, .int .i64 (NV : Int)], .int .i64 0]) (by simp [results, Tryd.results43, go_sem]) rfl ⟨⟨K, N, WS, V, (NV : Int)⟩, .slice so wl sc, (by rw [HT.out]; rfl), row_keep HR.out (((B.refl _).alloc _ _).alloc _ _), (fun h => (by rw [HT.out])), (((B.refl _).alloc _ _).alloc _ _).tn _ _⟩
end Go.Proofs.YthlileddhgglnaaDoor
namespace Go.Proofs.YthlileddhgglnaaDoor
open Go.RowKit
set_option linter.unusedVariables false
theorem kind_word {k : Int} (h0 : 0 ≤ k) (h6 : k ≤ 6) : (#[Value.string { data := #[117, 115, 101] }, Value.string { data := #[102, 114, 101, 115, 104] }, Value.string { data := #[116, 114, 97, 110, 115, 102, 101, 114] }, Value.string { data := #[115, 112, 114, 101, 97, 100] }, Value.string { data := #[103, 97, 116, 104, 101, 114] }, Value.string { data := #[109, 105, 120] }, Value.string { data := #[100, 105, 108, 117, 116, 101] }] : Array Value)[k.toNat]? = some (.string (strB (kindW k))) := by
 have : k = 0 ∨ k = 1 ∨ k = 2 ∨ k = 3 ∨ k = 4 ∨ k = 5 ∨ k = 6 := by omega
 rcases this with rfl | rfl | rfl | rfl | rfl | rfl | rfl <;> rfl
theorem r8names_any (w : World) : Calls Tryd.prog 22 #[] w fun e w' => ∃ b, e = .returned (.slice (some ⟨b, 0, none⟩) 7 7) ∧ Q w w' ∧ w.heap.size ≤ b ∧ ∀ k : Int, 0 ≤ k → k ≤ 6 → w'.cell? ⟨b, k.toNat, none⟩ = some (.string (strB (kindW k))) := by
 go_enter Tryd.func22, Tryd.ntmps22
 go_wp2
 go_ret
 refine ⟨_, rfl, (Q.refl w).alloc _ _, Nat.le_refl _, fun k h0 h6 => ?_⟩
 rw [World.cell?_alloc_new]
 exact kind_word h0 h6
end Go.Proofs.YthlileddhgglnaaDoor
namespace Go.Proofs.YthlileddhgglnaaDoor
open Go.RowKit
set_option linter.unusedVariables false
set_option maxHeartbeats 1600000 in
theorem enough_any (k n : Nat) (hk : k ≤ 6) (w : World) : Calls Tryd.prog 41 #[.int .i64 (k : Int), .int .i64 (n : Int)] w fun x w' => x = .returned (.bool (enoughP k n)) ∧ w = w' := by
 have hk7 : k = 0 ∨ k = 1 ∨ k = 2 ∨ k = 3 ∨ k = 4 ∨ k = 5 ∨ k = 6 := by omega
 rcases hk7 with rfl | rfl | rfl | rfl | rfl | rfl | rfl
 ·by_cases e2 : n = 2
  ·subst e2
   go_enter Tryd.func41, Tryd.ntmps41
   go_wp2
   go_ret
   exact ⟨rfl, rfl⟩
  ·have HR := Lib.hid (show enoughP 0 n = false by unfold enoughP; simp [e2])
   have b2 : ((n : Int) == 2) = false := by simp; omega
   clear e2
   go_enter Tryd.func41, Tryd.ntmps41
   go_wp2
   go_ret
   exact ⟨by rw [HR.out]; rfl, rfl⟩
 ·by_cases e2 : n = 2
  ·subst e2
   go_enter Tryd.func41, Tryd.ntmps41
   go_wp2
   go_ret
   exact ⟨rfl, rfl⟩
  ·have HR := Lib.hid (show enoughP 1 n = false by unfold enoughP; simp [e2])
   have b2 : ((n : Int) == 2) = false := by simp; omega
   clear e2
   go_enter Tryd.func41, Tryd.ntmps41
   go_wp2
   go_ret
   exact ⟨by rw [HR.out]; rfl, rfl⟩
 ·by_cases e2 : n = 4
  ·subst e2
   go_enter Tryd.func41, Tryd.ntmps41
   go_wp2
   go_ret
   exact ⟨rfl, rfl⟩
  ·have HR := Lib.hid (show enoughP 2 n = false by unfold enoughP; simp [e2])
   have b2 : ((n : Int) == 4) = false := by simp; omega
   clear e2
   go_enter Tryd.func41, Tryd.ntmps41
   go_wp2
   go_ret
   exact ⟨by rw [HR.out]; rfl, rfl⟩
 ·by_cases e2 : 4 ≤ n
  ·have HR := Lib.hid (show enoughP 3 n = true by unfold enoughP; simp [e2])
   have b2 : decide ((4 : Int) ≤ (n : Int)) = true := decide_eq_true (by omega)
   have b3 : decide (4 ≤ n) = true := decide_eq_true e2
   clear e2
   go_enter Tryd.func41, Tryd.ntmps41
   go_wp2
   go_ret
   exact ⟨by rw [HR.out]; rfl, rfl⟩
  ·have HR := Lib.hid (show enoughP 3 n = false by unfold enoughP; simp [e2])
   have b2 : decide ((4 : Int) ≤ (n : Int)) = false := decide_eq_false (by omega)
   have b3 : decide (4 ≤ n) = false := decide_eq_false e2
   clear e2
   go_enter Tryd.func41, Tryd.ntmps41
   go_wp2
   go_ret
   exact ⟨by rw [HR.out]; rfl, rfl⟩
 ·by_cases e2 : 4 ≤ n
  ·have HR := Lib.hid (show enoughP 4 n = true by unfold enoughP; simp [e2])
   have b2 : decide ((4 : Int) ≤ (n : Int)) = true := decide_eq_true (by omega)
   have b3 : decide (4 ≤ n) = true := decide_eq_true e2
   clear e2
   go_enter Tryd.func41, Tryd.ntmps41
   go_wp2
   go_ret
   exact ⟨by rw [HR.out]; rfl, rfl⟩
  ·have HR := Lib.hid (show enoughP 4 n = false by unfold enoughP; simp [e2])
   have b2 : decide ((4 : Int) ≤ (n : Int)) = false := decide_eq_false (by omega)
   have b3 : decide (4 ≤ n) = false := decide_eq_false e2
   clear e2
   go_enter Tryd.func41, Tryd.ntmps41
   go_wp2
   go_ret
   exact ⟨by rw [HR.out]; rfl, rfl⟩
 ·by_cases e2 : n = 4
  ·subst e2
   go_enter Tryd.func41, Tryd.ntmps41
   go_wp2
   go_ret
   exact ⟨rfl, rfl⟩
  ·have HR := Lib.hid (show enoughP 5 n = false by unfold enoughP; simp [e2])
   have b2 : ((n : Int) == 4) = false := by simp; omega
   clear e2
   go_enter Tryd.func41, Tryd.ntmps41
   go_wp2
   go_ret
   exact ⟨by rw [HR.out]; rfl, rfl⟩
 ·by_cases e2 : 4 ≤ n
  ·have HR := Lib.hid (show enoughP 6 n = true by unfold enoughP; simp [e2])
   have b2 : decide ((4 : Int) ≤ (n : Int)) = true := decide_eq_true (by omega)
   have b3 : decide (4 ≤ n) = true := decide_eq_true e2
   clear e2
   go_enter Tryd.func41, Tryd.ntmps41
   go_wp2
   go_ret
   exact ⟨by rw [HR.out]; rfl, rfl⟩
  ·have HR := Lib.hid (show enoughP 6 n = false by unfold enoughP; simp [e2])
   have b2 : decide ((4 : Int) ≤ (n : Int)) = false := decide_eq_false (by omega)
   have b3 : decide (4 ≤ n) = false := decide_eq_false e2
   clear e2
   go_enter Tryd.func41, Tryd.ntmps41
   go_wp2
   go_ret
   exact ⟨by rw [HR.out]; rfl, rfl⟩
def patB (k : Nat) : ByteArray := if k = 0 then { data := #[110] } else if k = 1 then { data := #[102] } else if k = 2 then { data := #[119, 119, 118] } else if k = 3 then { data := #[119, 118, 119] } else if k = 4 then { data := #[119, 118, 119] } else if k = 5 then { data := #[119, 118, 116] } else { data := #[118, 119] }
theorem pattern_any (k : Nat) (hk : k ≤ 6) (w : World) : Calls Tryd.prog 42 #[.int .i64 (k : Int)] w fun x w' => x = .returned (.string (patB k)) ∧ B w w' := by
 have hk7 : k = 0 ∨ k = 1 ∨ k = 2 ∨ k = 3 ∨ k = 4 ∨ k = 5 ∨ k = 6 := by omega
 rcases hk7 with rfl | rfl | rfl | rfl | rfl | rfl | rfl
 all_goals
  go_enter Tryd.func42, Tryd.ntmps42
  go_wp2
  go_ret
  exact ⟨rfl, (B.refl _).alloc _ _⟩
theorem patB_size {k : Nat} (hk : k ≤ 6) : 1 ≤ (patB k).size ∧ (patB k).size ≤ 3 := by
 have hk7 : k = 0 ∨ k = 1 ∨ k = 2 ∨ k = 3 ∨ k = 4 ∨ k = 5 ∨ k = 6 := by omega
 rcases hk7 with rfl | rfl | rfl | rfl | rfl | rfl | rfl <;> decide
theorem patB_at {k i : Nat} (hk : k ≤ 6) (hi : 1 ≤ i) (h0 : k ≤ 1 → i = 1) (h4 : k = 2 ∨ k = 5 → i ≤ 3) (h : min i (patB k).size - 1 < (patB k).size) : (((patB k)[min i (patB k).size - 1]'h).toNat : Int) = codeP (toldP k i) := by
 have hk7 : k = 0 ∨ k = 1 ∨ k = 2 ∨ k = 3 ∨ k = 4 ∨ k = 5 ∨ k = 6 := by omega
 rcases hk7 with rfl | rfl | rfl | rfl | rfl | rfl | rfl
 ·obtain rfl := h0 (by omega); rfl
 ·obtain rfl := h0 (by omega); rfl
 ·have := h4 (.inl rfl)
  have : i = 1 ∨ i = 2 ∨ i = 3 := by omega
  rcases this with rfl | rfl | rfl <;> rfl
 ·match i, hi with
  | 1, _ => rfl
  | 2, _ => rfl
  | i + 3, _ =>
   have e : min (i + 3) (patB 3).size - 1 = 2 := by show min (i + 3) 3 - 1 = 2; omega
   have e2 : toldP 3 (i + 3) = 2 := by unfold toldP; simp
   rw [e2]
   simp only [e]
   rfl
 ·match i, hi with
  | 1, _ => rfl
  | 2, _ => rfl
  | i + 3, _ =>
   have e : min (i + 3) (patB 4).size - 1 = 2 := by show min (i + 3) 3 - 1 = 2; omega
   have e2 : toldP 4 (i + 3) = 2 := by unfold toldP; simp
   rw [e2]
   simp only [e]
   rfl
 ·have := h4 (.inr rfl)
  have : i = 1 ∨ i = 2 ∨ i = 3 := by omega
  rcases this with rfl | rfl | rfl <;> rfl
 ·match i, hi with
  | 1, _ => rfl
  | i + 2, _ =>
   have e : min (i + 2) (patB 6).size - 1 = 1 := by show min (i + 2) 2 - 1 = 1; omega
   have e2 : toldP 6 (i + 2) = 2 := by unfold toldP; simp
   rw [e2]
   simp only [e]
   rfl
def kindTo (t : List UInt8) (i : Nat) : Int := match kindP t with
 | some k => if k < i then (k : Int) else -1
 | none => -1
theorem kindTo_zero (t : List UInt8) : kindTo t 0 = -1 := by unfold kindTo; split <;> simp
theorem kindTo_seven (t : List UInt8) : kindTo t 7 = match kindP t with | some k => (k : Int) | none => -1 := by
 unfold kindTo
 cases h : kindP t with
 | none => rfl
 | some k => simp only; rw [if_pos (by have := kindP_lt h; omega)]
theorem kindP_word (t : List UInt8) {i : Nat} (hi : i < 7) : t = kindW (i : Int) ↔ kindP t = some i := by
 have hk7 : i = 0 ∨ i = 1 ∨ i = 2 ∨ i = 3 ∨ i = 4 ∨ i = 5 ∨ i = 6 := by omega
 constructor
 ·intro h
  subst h
  rcases hk7 with rfl | rfl | rfl | rfl | rfl | rfl | rfl <;> decide
 ·intro h
  unfold kindP at h
  by_cases c0 : t = kUse
  ·rw [if_pos c0] at h; injection h with h; subst h; exact c0
  rw [if_neg c0] at h
  by_cases c1 : t = kFresh
  ·rw [if_pos c1] at h; injection h with h; subst h; exact c1
  rw [if_neg c1] at h
  by_cases c2 : t = kTransfer
  ·rw [if_pos c2] at h; injection h with h; subst h; exact c2
  rw [if_neg c2] at h
  by_cases c3 : t = kSpread
  ·rw [if_pos c3] at h; injection h with h; subst h; exact c3
  rw [if_neg c3] at h
  by_cases c4 : t = kGather
  ·rw [if_pos c4] at h; injection h with h; subst h; exact c4
  rw [if_neg c4] at h
  by_cases c5 : t = kMix
  ·rw [if_pos c5] at h; injection h with h; subst h; exact c5
  rw [if_neg c5] at h
  by_cases c6 : t = kDilute
  ·rw [if_pos c6] at h; injection h with h; subst h; exact c6
  rw [if_neg c6] at h
  cases h
theorem kindTo_yes {t : List UInt8} {i : Nat} (h : kindP t = some i) : kindTo t (i + 1) = (i : Int) := by
 unfold kindTo
 rw [h]
 simp
theorem kindTo_no {t : List UInt8} {i : Nat} (h : kindP t ≠ some i) : kindTo t (i + 1) = kindTo t i := by
 unfold kindTo
 cases hk : kindP t with
 | none => rfl
 | some k =>
  simp only
  have hne : k ≠ i := fun e => h (by rw [hk, e])
  by_cases hl : k < i
  ·rw [if_pos hl, if_pos (by omega)]
  ·rw [if_neg hl, if_neg (by omega)]
end Go.Proofs.YthlileddhgglnaaDoor
