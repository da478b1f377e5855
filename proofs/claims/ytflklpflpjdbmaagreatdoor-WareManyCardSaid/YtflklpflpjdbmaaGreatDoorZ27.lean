/-
  Contract of the document's line of a fill; Contract of the document's whole; The document's reading of a deck under way: what lies in memory.
-/
import Derived.Test.YtflklpflpjdbmaaGreatDoorChecked
import Derived.Test.YtflklpflpjdbmaaGreatDoorZ1
import Derived.Test.YtflklpflpjdbmaaGreatDoorZ2
import Derived.Test.YtflklpflpjdbmaaGreatDoorZ3
import Derived.Test.YtflklpflpjdbmaaGreatDoorZ4
import Derived.Test.YtflklpflpjdbmaaGreatDoorZ7
import Derived.Test.YtflklpflpjdbmaaGreatDoorZ13
import Derived.Test.YtflklpflpjdbmaaGreatDoorZ17
import Derived.Test.YtflklpflpjdbmaaGreatDoorZ18
import Derived.Test.YtflklpflpjdbmaaGreatDoorZ19
import Derived.Test.YtflklpflpjdbmaaGreatDoorZ24
import Derived.Test.YtflklpflpjdbmaaGreatDoorZ25
import Derived.Test.YtflklpflpjdbmaaGreatDoorZ26
namespace Go.Proofs.YtflklpflpjdbmaaGreatDoor
open Go.RowKit
theorem obj_four {w : World} {b : Nat} {a0 a1 a2 a3 : Value} {t : TypeId} (h : w.heap[b]? = some (.cells #[a0, a1, a2, a3] t (0, 0))) (x0 x1 x2 x3 : Value) :
    ((((w.setCell ⟨b, 0, none⟩ x0).setCell ⟨b, 1, none⟩ x1).setCell ⟨b, 2, none⟩ x2).setCell ⟨b, 3, none⟩ x3).heap[b]? = some (.cells #[x0, x1, x2, x3] t (0, 0)) := by
  have := obj_set (obj_set (obj_set (obj_set h 0 x0) 1 x1) 2 x2) 3 x3
  simpa using this
theorem b_four {u w : World} (h : B u w) {b : Nat} (hb : u.heap.size ≤ b) (x0 x1 x2 x3 : Value) :
    B u ((((w.setCell ⟨b, 0, none⟩ x0).setCell ⟨b, 1, none⟩ x1).setCell ⟨b, 2, none⟩ x2).setCell ⟨b, 3, none⟩ x3) :=
  B.setCell (p := ⟨b, 3, none⟩) (B.setCell (p := ⟨b, 2, none⟩) (B.setCell (p := ⟨b, 1, none⟩) (B.setCell (p := ⟨b, 0, none⟩) h hb _) hb _) hb _) hb _
/-- What a fill's line tells. -/
def FillRes (d : Dk) (l : List Wd) (w : World) (e : Ending) (w' : World) : Prop :=
  (∃ f, fillW d l = .ok f ∧ e = .returned (.tuple #[.agg #[.string f.n, .int .i64 f.r, .int .i64 f.c, .int .i64 f.v], .int .i64 0, .int .i64 0]) ∧ B w w') ∨
  (∃ p n : Nat, fillW d l = .error (p, n) ∧ e = .returned (.tuple #[.agg #[.string ⟨#[]⟩, .int .i64 0, .int .i64 0, .int .i64 0], .int .i64 (p : Int), .int .i64 (n : Int)]) ∧ B w w')
set_option maxHeartbeats 8000000 in
set_option maxRecDepth 100000 in
theorem r8fillLine_any (wv tv fv v : Value) (d : Dk) (k : Wd) (l : List Wd) (w : World) (hd : IsDk w wv tv fv d) (h : IsWords w v (k :: l)) (hb : ∀ x ∈ d.ws, wareB x) (h100 : d.ws.length ≤ 100) (hlong : ∀ x ∈ l, x.2.length ≤ 65536) : Calls Tryz.prog 63 #[.agg #[wv, tv, fv], v] w (FillRes d (k :: l) w) := by
  obtain ⟨ao, ac, bo, bc, co, cc, rfl, rfl, rfl⟩ := hd.forms
  obtain ⟨g, lc, rfl, hle, hm, hlt, z⟩ := h.full (by simp)
  obtain ⟨W, hW⟩ : ∃ W, (w.alloc (.cells #[.slice ao d.ws.length ac, .slice bo d.ts.length bc, .slice co d.fs.length cc] 26)).alloc (.cells #[.string ⟨#[]⟩, .int .i64 0, .int .i64 0, .int .i64 0] 41) = W := ⟨_, rfl⟩
  have e1 : (w.alloc (.cells #[.slice ao d.ws.length ac, .slice bo d.ts.length bc, .slice co d.fs.length cc] 26)).heap.size = w.heap.size + 1 := by simp
  have hQ : B w W := by rw [← hW]; exact ((B.refl w).alloc _ _).alloc _ _
  have hHb : w.heap.size ≤ w.heap.size + 1 := by omega
  have ob : W.heap[w.heap.size + 1]? = some (.cells #[.string ⟨#[]⟩, .int .i64 0, .int .i64 0, .int .i64 0] 41 (0, 0)) := by rw [← hW, ← e1]; exact heap_alloc_new _ _
  have obd : W.heap[w.heap.size]? = some (.cells #[.slice ao d.ws.length ac, .slice bo d.ts.length bc, .slice co d.fs.length cc] 26 (0, 0)) := by rw [← hW]; exact ((B.refl _).alloc _ _).obj (heap_alloc_new _ _)
  have hD := hd.keepB hQ
  have hgH : g < w.heap.size := hlt
  have zW : ∀ i x, (k :: l)[i]? = some x → W.cell? ⟨g, i * 2, none⟩ = some (.int .i64 ((x.1 : Nat) : Int)) ∧ W.cell? ⟨g, i * 2 + 1, none⟩ = some (.string (strB x.2)) := fun i x hx => ⟨hQ.keep (z i x hx).1, hQ.keep (z i x hx).2⟩
  obtain ⟨hk1, _⟩ := zW 0 k rfl
  obtain ⟨KA, hKA⟩ : ∃ KA, k.1 = KA := ⟨_, rfl⟩
  rw [hKA] at hk1
  unfold FillRes
  by_cases hc : l.length = 2
  · obtain ⟨p, q, rfl⟩ : ∃ p q, l = [p, q] := by
      match l, hc with
      | [p, q], _ => exact ⟨p, q, rfl⟩
    clear hc hk1
    obtain ⟨p1, p2⟩ := zW 1 p rfl
    obtain ⟨q1, q2⟩ := zW 2 q rfl
    rw [show 1 * 2 = 2 from rfl] at p1 p2
    rw [show 2 * 2 = 4 from rfl] at q1 q2
    obtain ⟨PA, hPA⟩ : ∃ PA, p.1 = PA := ⟨_, rfl⟩
    obtain ⟨QA, hQA⟩ : ∃ QA, q.1 = QA := ⟨_, rfl⟩
    rw [hPA] at p1
    rw [hQA] at q1
    have cw := r8well_any p.2 W (hlong p (by simp))
    have cq := fun w => r8number_any (strB q.2) w
    have hfw : fillW d [k, p, q] = (match wellL p.2 with | none => .error (p.1, 26) | some (n, r, c) => if hasW d.ws (strB n) r c = false ∨ filledW d.fs (strB n) r c = true then .error (p.1, 26) else if numOk (strB q.2) = false ∨ 20000000 < numV (strB q.2) then .error (q.1, 20) else .ok ⟨strB n, r, c, numV (strB q.2)⟩) := rfl
    rw [hPA, hQA] at hfw
    obtain ⟨PS, hPS⟩ : ∃ PS, strB p.2 = PS := ⟨_, rfl⟩
    obtain ⟨QS, hQS⟩ : ∃ QS, strB q.2 = QS := ⟨_, rfl⟩
    rw [hPS] at p2 cw
    rw [hQS] at q2 cq hfw
    clear z zW hd h hle hm hlt hKA hPA hQA hlong
    go_enter Tryz.func63, Tryz.ntmps63
    go_wp2_with fail
    try rw [hW]
    refine cw.mono ?_
    clear cw
    rintro e w1 (⟨n, r, c, hwl, rfl, qq⟩ | ⟨hwl, rfl, qq⟩)
    · rw [hwl] at hfw
      obtain ⟨N, hN⟩ : ∃ N, strB n = N := ⟨_, rfl⟩
      simp only [hN] at hfw
      rw [hN]
      clear hwl hN hW e1
      obtain ⟨V, hV⟩ : ∃ V, w1.alloc (.cells #[.string N, .int .i64 (r : Int), .int .i64 (c : Int)] 39) = V := ⟨_, rfl⟩
      have qV : B W V := by rw [← hV]; exact qq.alloc _ _
      have v0 : V.cell? ⟨w1.heap.size, 0, none⟩ = some (.string N) := by rw [← hV, World.cell?_alloc_new]; rfl
      have v1 : V.cell? ⟨w1.heap.size, 1, none⟩ = some (.int .i64 (r : Int)) := by rw [← hV, World.cell?_alloc_new]; rfl
      have v2 : V.cell? ⟨w1.heap.size, 2, none⟩ = some (.int .i64 (c : Int)) := by rw [← hV, World.cell?_alloc_new]; rfl
      have hDV := hD.keepB qV
      have obV := qV.obj ob
      have obdV := qV.obj obd
      replace p1 := qV.keep p1
      replace q1 := qV.keep q1
      replace q2 := qV.keep q2
      have qwV := hQ.trans qV
      have ci := r8index_any _ _ _ d N r c V hDV hb h100
      have D0 := obj_cell obdV 0
      have D1 := obj_cell obdV 1
      have D2 := obj_cell obdV 2
      simp only [List.getElem?_toArray, List.getElem?_cons_zero, List.getElem?_cons_succ] at D0 D1 D2
      clear qq qV hQ hD ob p2
      go_wp2_with fail
      try rw [hV]
      refine ci.mono ?_
      clear ci
      rintro e w2 ⟨rfl, q5⟩
      clear hV
      have hD2 := hDV.keepB q5.b
      have ob2 := q5.b.obj obV
      have obd2 := q5.b.obj obdV
      replace p1 := q5.b.keep p1
      replace q1 := q5.b.keep q1
      replace q2 := q5.b.keep q2
      replace v0 := q5.b.keep v0
      replace v1 := q5.b.keep v1
      replace v2 := q5.b.keep v2
      have qw2 := qwV.trans q5.b
      clear D0 D1 D2 hDV obV obdV q5 qwV
      have D0 := obj_cell obd2 0
      have D1 := obj_cell obd2 1
      have D2 := obj_cell obd2 2
      simp only [List.getElem?_toArray, List.getElem?_cons_zero, List.getElem?_cons_succ] at D0 D1 D2
      cases hhas : hasW d.ws N r c
      · have HE := Lib.hid (show fillW d [k, p, q] = .error (PA, 26) from by rw [hfw, if_pos (.inl hhas)])
        clear hfw hhas hD2 obd2 cq
        have b0 := obj_cell ob2 0
        have f0 := obj_free ob2 0
        have b1 := obj_cell ob2 1
        have f1 := obj_free ob2 1
        have b2 := obj_cell ob2 2
        have f2 := obj_free ob2 2
        have b3 := obj_cell ob2 3
        have f3 := obj_free ob2 3
        simp only [List.getElem?_toArray, List.getElem?_cons_zero, List.getElem?_cons_succ] at b0 b1 b2 b3
        go_wp2_with fail
        go_region
        go_wp2
        have ob6 := obj_four ob2 (.string ⟨#[]⟩) (.int .i64 0) (.int .i64 0) (.int .i64 0)
        have B6 := b_four qw2 hHb (.string ⟨#[]⟩) (.int .i64 0) (.int .i64 0) (.int .i64 0)
        generalize ((((w2.setCell ⟨w.heap.size + 1, 0, none⟩ (.string ⟨#[]⟩)).setCell ⟨w.heap.size + 1, 1, none⟩ (.int .i64 0)).setCell ⟨w.heap.size + 1, 2, none⟩ (.int .i64 0)).setCell ⟨w.heap.size + 1, 3, none⟩ (.int .i64 0)) = W6 at *
        have d0 := obj_cell ob6 0
        have d1 := obj_cell ob6 1
        have d2 := obj_cell ob6 2
        have d3 := obj_cell ob6 3
        simp only [List.getElem?_toArray, List.getElem?_cons_zero, List.getElem?_cons_succ] at d0 d1 d2 d3
        exact bodyPost_ret (v := .tuple #[.agg #[.string ⟨#[]⟩, .int .i64 0, .int .i64 0, .int .i64 0], .int .i64 (PA : Int), .int .i64 26]) (by simp [results, Tryz.results63, go_sem, d0, d1, d2, d3]) rfl (.inr ⟨PA, 26, HE.out, rfl, B6.drew⟩)
      have cf := r8filled_any _ _ _ d N r c w2 hD2
      cases hfl : filledW d.fs N r c
      · rw [hfl] at cf
        rw [if_neg (by rw [hhas, hfl]; simp)] at hfw
        go_wp2_with fail
        refine cf.mono ?_
        clear cf
        rintro e w3 ⟨rfl, q6⟩
        have ob3 := q6.b.obj ob2
        replace p1 := q6.b.keep p1
        replace q1 := q6.b.keep q1
        replace q2 := q6.b.keep q2
        replace v0 := q6.b.keep v0
        replace v1 := q6.b.keep v1
        replace v2 := q6.b.keep v2
        have qw3 := qw2.trans q6.b
        clear D0 D1 D2 hD2 ob2 obd2 q6 qw2 hhas hfl
        have b0 := obj_cell ob3 0
        have f0 := obj_free ob3 0
        have b1 := obj_cell ob3 1
        have f1 := obj_free ob3 1
        have b2 := obj_cell ob3 2
        have f2 := obj_free ob3 2
        have b3 := obj_cell ob3 3
        have f3 := obj_free ob3 3
        simp only [List.getElem?_toArray, List.getElem?_cons_zero, List.getElem?_cons_succ] at b0 b1 b2 b3
        cases hok : numOk QS
        · have HE := Lib.hid (show fillW d [k, p, q] = .error (QA, 20) from by rw [hfw, if_pos (.inl hok)])
          rw [hok] at cq
          clear hfw hok
          go_wp2_with fail
          refine (cq _).mono ?_
          rintro e w4 ⟨rfl, rfl⟩
          clear cq
          go_wp2_with fail
          go_region
          go_wp2
          have ob6 := obj_four ob3 (.string ⟨#[]⟩) (.int .i64 0) (.int .i64 0) (.int .i64 0)
          have B6 := b_four qw3 hHb (.string ⟨#[]⟩) (.int .i64 0) (.int .i64 0) (.int .i64 0)
          generalize ((((w3.setCell ⟨w.heap.size + 1, 0, none⟩ (.string ⟨#[]⟩)).setCell ⟨w.heap.size + 1, 1, none⟩ (.int .i64 0)).setCell ⟨w.heap.size + 1, 2, none⟩ (.int .i64 0)).setCell ⟨w.heap.size + 1, 3, none⟩ (.int .i64 0)) = W6 at *
          have d0 := obj_cell ob6 0
          have d1 := obj_cell ob6 1
          have d2 := obj_cell ob6 2
          have d3 := obj_cell ob6 3
          simp only [List.getElem?_toArray, List.getElem?_cons_zero, List.getElem?_cons_succ] at d0 d1 d2 d3
          exact bodyPost_ret (v := .tuple #[.agg #[.string ⟨#[]⟩, .int .i64 0, .int .i64 0, .int .i64 0], .int .i64 (QA : Int), .int .i64 20]) (by simp [results, Tryz.results63, go_sem, d0, d1, d2, d3]) rfl (.inr ⟨QA, 20, HE.out, rfl, B6.drew⟩)
        rw [hok] at cq
        obtain ⟨NV, hNV⟩ : ∃ NV, numV QS = NV := ⟨_, rfl⟩
        rw [hNV] at cq hfw
        by_cases hbig : 20000000 < NV
        · have HE := Lib.hid (show fillW d [k, p, q] = .error (QA, 20) from by rw [hfw, if_pos (.inr hbig)])
          have hbB : decide ((20000000 : Int) < (NV : Int)) = true := decide_eq_true (by omega)
          clear hfw hok hbig hNV
          go_wp2_with fail
          refine (cq _).mono ?_
          rintro e w4 ⟨rfl, rfl⟩
          clear cq
          go_wp2_with fail
          go_region
          go_wp2
          have ob6 := obj_four ob3 (.string ⟨#[]⟩) (.int .i64 0) (.int .i64 0) (.int .i64 0)
          have B6 := b_four qw3 hHb (.string ⟨#[]⟩) (.int .i64 0) (.int .i64 0) (.int .i64 0)
          generalize ((((w3.setCell ⟨w.heap.size + 1, 0, none⟩ (.string ⟨#[]⟩)).setCell ⟨w.heap.size + 1, 1, none⟩ (.int .i64 0)).setCell ⟨w.heap.size + 1, 2, none⟩ (.int .i64 0)).setCell ⟨w.heap.size + 1, 3, none⟩ (.int .i64 0)) = W6 at *
          have d0 := obj_cell ob6 0
          have d1 := obj_cell ob6 1
          have d2 := obj_cell ob6 2
          have d3 := obj_cell ob6 3
          simp only [List.getElem?_toArray, List.getElem?_cons_zero, List.getElem?_cons_succ] at d0 d1 d2 d3
          exact bodyPost_ret (v := .tuple #[.agg #[.string ⟨#[]⟩, .int .i64 0, .int .i64 0, .int .i64 0], .int .i64 (QA : Int), .int .i64 20]) (by simp [results, Tryz.results63, go_sem, d0, d1, d2, d3]) rfl (.inr ⟨QA, 20, HE.out, rfl, B6.drew⟩)
        · have HE := Lib.hid (show fillW d [k, p, q] = .ok ⟨N, r, c, NV⟩ from by rw [hfw, if_neg (by rw [hok]; simp; omega)])
          have hbB : decide ((20000000 : Int) < (NV : Int)) = false := decide_eq_false (by omega)
          clear hfw hok hbig hNV
          go_wp2_with fail
          refine (cq _).mono ?_
          rintro e w4 ⟨rfl, rfl⟩
          clear cq
          go_wp2
          have ob6 := obj_four ob3 (.string N) (.int .i64 (r : Int)) (.int .i64 (c : Int)) (.int .i64 (NV : Int))
          have B6 := b_four qw3 hHb (.string N) (.int .i64 (r : Int)) (.int .i64 (c : Int)) (.int .i64 (NV : Int))
          generalize ((((w3.setCell ⟨w.heap.size + 1, 0, none⟩ (.string N)).setCell ⟨w.heap.size + 1, 1, none⟩ (.int .i64 (r : Int))).setCell ⟨w.heap.size + 1, 2, none⟩ (.int .i64 (c : Int))).setCell ⟨w.heap.size + 1, 3, none⟩ (.int .i64 (NV : Int))) = W6 at *
          have d0 := obj_cell ob6 0
          have d1 := obj_cell ob6 1
          have d2 := obj_cell ob6 2
          have d3 := obj_cell ob6 3
          simp only [List.getElem?_toArray, List.getElem?_cons_zero, List.getElem?_cons_succ] at d0 d1 d2 d3
          exact bodyPost_ret (v := .tuple #[.agg #[.string N, .int .i64 (r : Int), .int .i64 (c : Int), .int .i64 (NV : Int)], .int .i64 0, .int .i64 0]) (by simp [results, Tryz.results63, go_sem, d0, d1, d2, d3]) rfl (.inl ⟨_, HE.out, rfl, B6⟩)
      · have HE := Lib.hid (show fillW d [k, p, q] = .error (PA, 26) from by rw [hfw, if_pos (.inr hfl)])
        rw [hfl] at cf
        go_wp2_with fail
        refine cf.mono ?_
        clear cf
        rintro e w3 ⟨rfl, q6⟩
        have ob3 := q6.b.obj ob2
        replace p1 := q6.b.keep p1
        have qw3 := qw2.trans q6.b
        clear D0 D1 D2 hD2 ob2 obd2 q6 qw2 hhas hfl q1 q2 v0 v1 v2 cq hfw
        have b0 := obj_cell ob3 0
        have f0 := obj_free ob3 0
        have b1 := obj_cell ob3 1
        have f1 := obj_free ob3 1
        have b2 := obj_cell ob3 2
        have f2 := obj_free ob3 2
        have b3 := obj_cell ob3 3
        have f3 := obj_free ob3 3
        simp only [List.getElem?_toArray, List.getElem?_cons_zero, List.getElem?_cons_succ] at b0 b1 b2 b3
        go_wp2_with fail
        go_region
        go_wp2
        have ob6 := obj_four ob3 (.string ⟨#[]⟩) (.int .i64 0) (.int .i64 0) (.int .i64 0)
        have B6 := b_four qw3 hHb (.string ⟨#[]⟩) (.int .i64 0) (.int .i64 0) (.int .i64 0)
        generalize ((((w3.setCell ⟨w.heap.size + 1, 0, none⟩ (.string ⟨#[]⟩)).setCell ⟨w.heap.size + 1, 1, none⟩ (.int .i64 0)).setCell ⟨w.heap.size + 1, 2, none⟩ (.int .i64 0)).setCell ⟨w.heap.size + 1, 3, none⟩ (.int .i64 0)) = W6 at *
        have d0 := obj_cell ob6 0
        have d1 := obj_cell ob6 1
        have d2 := obj_cell ob6 2
        have d3 := obj_cell ob6 3
        simp only [List.getElem?_toArray, List.getElem?_cons_zero, List.getElem?_cons_succ] at d0 d1 d2 d3
        exact bodyPost_ret (v := .tuple #[.agg #[.string ⟨#[]⟩, .int .i64 0, .int .i64 0, .int .i64 0], .int .i64 (PA : Int), .int .i64 26]) (by simp [results, Tryz.results63, go_sem, d0, d1, d2, d3]) rfl (.inr ⟨PA, 26, HE.out, rfl, B6.drew⟩)
    · rw [hwl] at hfw
      have HE := Lib.hid hfw
      clear hwl hW e1 hfw
      go_wp2_with fail
      obtain ⟨V, hV⟩ : ∃ V, w1.alloc (.cells #[.string ⟨#[]⟩, .int .i64 0, .int .i64 0] 39) = V := ⟨_, rfl⟩
      have qV : B W V := by rw [← hV]; exact qq.alloc _ _
      have obV := qV.obj ob
      replace p1 := qV.keep p1
      have qwV := hQ.trans qV
      clear qq qV hQ hD ob p2 q1 q2 obd cq
      have b0 := obj_cell obV 0
      have f0 := obj_free obV 0
      have b1 := obj_cell obV 1
      have f1 := obj_free obV 1
      have b2 := obj_cell obV 2
      have f2 := obj_free obV 2
      have b3 := obj_cell obV 3
      have f3 := obj_free obV 3
      simp only [List.getElem?_toArray, List.getElem?_cons_zero, List.getElem?_cons_succ] at b0 b1 b2 b3
      rw [hV]
      clear hV
      go_region
      go_wp2
      have ob6 := obj_four obV (.string ⟨#[]⟩) (.int .i64 0) (.int .i64 0) (.int .i64 0)
      have B6 := b_four qwV hHb (.string ⟨#[]⟩) (.int .i64 0) (.int .i64 0) (.int .i64 0)
      generalize ((((V.setCell ⟨w.heap.size + 1, 0, none⟩ (.string ⟨#[]⟩)).setCell ⟨w.heap.size + 1, 1, none⟩ (.int .i64 0)).setCell ⟨w.heap.size + 1, 2, none⟩ (.int .i64 0)).setCell ⟨w.heap.size + 1, 3, none⟩ (.int .i64 0)) = W6 at *
      have d0 := obj_cell ob6 0
      have d1 := obj_cell ob6 1
      have d2 := obj_cell ob6 2
      have d3 := obj_cell ob6 3
      simp only [List.getElem?_toArray, List.getElem?_cons_zero, List.getElem?_cons_succ] at d0 d1 d2 d3
      exact bodyPost_ret (v := .tuple #[.agg #[.string ⟨#[]⟩, .int .i64 0, .int .i64 0, .int .i64 0], .int .i64 (PA : Int), .int .i64 26]) (by simp [results, Tryz.results63, go_sem, d0, d1, d2, d3]) rfl (.inr ⟨PA, 26, HE.out, rfl, B6.drew⟩)
  · have HE : fillW d (k :: l) = .error (KA, 24) := by
      rw [← hKA]
      match l, hc with
      | [], _ => rfl
      | [_], _ => rfl
      | _ :: _ :: _ :: _, _ => rfl
      | [_, _], hh => exact absurd rfl hh
    replace HE := Lib.hid HE
    have hcB : ((l.length : Int) + 1 != 3) = true := by simp; omega
    clear hD zW hd h z hc hle hm hlt hKA obd hb hlong
    have b0 := obj_cell ob 0
    have f0 := obj_free ob 0
    have b1 := obj_cell ob 1
    have f1 := obj_free ob 1
    have b2 := obj_cell ob 2
    have f2 := obj_free ob 2
    have b3 := obj_cell ob 3
    have f3 := obj_free ob 3
    simp only [List.getElem?_toArray, List.getElem?_cons_zero, List.getElem?_cons_succ] at b0 b1 b2 b3
    go_enter Tryz.func63, Tryz.ntmps63
    go_wp2
    try rw [hW]
    clear hW e1
    go_region
    go_wp2
    have ob6 := obj_four ob (.string ⟨#[]⟩) (.int .i64 0) (.int .i64 0) (.int .i64 0)
    have B6 := b_four hQ hHb (.string ⟨#[]⟩) (.int .i64 0) (.int .i64 0) (.int .i64 0)
    generalize ((((W.setCell ⟨w.heap.size + 1, 0, none⟩ (.string ⟨#[]⟩)).setCell ⟨w.heap.size + 1, 1, none⟩ (.int .i64 0)).setCell ⟨w.heap.size + 1, 2, none⟩ (.int .i64 0)).setCell ⟨w.heap.size + 1, 3, none⟩ (.int .i64 0)) = W6 at *
    have d0 := obj_cell ob6 0
    have d1 := obj_cell ob6 1
    have d2 := obj_cell ob6 2
    have d3 := obj_cell ob6 3
    simp only [List.getElem?_toArray, List.getElem?_cons_zero, List.getElem?_cons_succ] at d0 d1 d2 d3
    exact bodyPost_ret (v := .tuple #[.agg #[.string ⟨#[]⟩, .int .i64 0, .int .i64 0, .int .i64 0], .int .i64 (KA : Int), .int .i64 24]) (by simp [results, Tryz.results63, go_sem, d0, d1, d2, d3]) rfl (.inr ⟨KA, 24, HE.out, rfl, B6.drew⟩)
end Go.Proofs.YtflklpflpjdbmaaGreatDoor

namespace Go.Proofs.YtflklpflpjdbmaaGreatDoor
open Go.RowKit
theorem lastL_get : ∀ (ws : List Wr) (w : Wr), ws[ws.length - 1]? = some w → lastL ws = w.l
  | [], w, h => by simp at h
  | [x], w, h => by
    simp at h
    subst h
    rfl
  | x :: y :: ws, w, h => by
    show lastL (y :: ws) = w.l
    exact lastL_get (y :: ws) w (by simpa using h)
theorem r8whole0_any (wv tv fv : Value) (w : World) : Calls Tryz.prog 60 #[.agg #[wv, tv, fv], .int .i64 0] w fun e w' => e = .returned (.bool true) ∧ Q w w' := by
  have hQ := Lib.hid ((Q.refl w).alloc #[wv, tv, fv] 26)
  go_enter Tryz.func60, Tryz.ntmps60
  go_wp2
  go_ret
  exact ⟨rfl, hQ.out⟩
theorem r8whole1_any (wv tv fv : Value) (d : Dk) (w : World) (h : IsDk w wv tv fv d) (hl : d.ws ≠ []) : Calls Tryz.prog 60 #[.agg #[wv, tv, fv], .int .i64 1] w fun e w' => e = .returned (.bool (rightS (lastL d.ws))) ∧ Q w w' := by
  obtain ⟨ao, ac, bo, bc, co, cc, rfl, rfl, rfl⟩ := h.forms
  have hQ := (Q.refl w).alloc #[.slice ao d.ws.length ac, .slice bo d.ts.length bc, .slice co d.fs.length cc] 26
  have hR := h.ws.keepB hQ.b
  have hlen := h.ws.len
  have k0 : (w.alloc (.cells #[.slice ao d.ws.length ac, .slice bo d.ts.length bc, .slice co d.fs.length cc] 26)).cell? ⟨w.heap.size, 0, none⟩ = some (.slice ao d.ws.length ac) := by rw [World.cell?_alloc_new]; rfl
  have hp : 0 < d.ws.length := List.length_pos_iff.2 hl
  have wk : IntKind.i64.wrap ((d.ws.length : Int) - 1) = ((d.ws.length - 1 : Nat) : Int) := by rw [IntKind.wrap_i64]; omega
  obtain ⟨a, cap, e1, _, _, hr⟩ := hR.at_ (i := d.ws.length - 1) (by omega)
  obtain ⟨rfl, _, rfl⟩ : ao = some a ∧ True ∧ ac = cap := by simpa using e1
  obtain ⟨F, hF⟩ : ∃ F, d.ws[d.ws.length - 1]? = some F := ⟨_, List.getElem?_eq_getElem (by omega)⟩
  have hF2 : d.ws[d.ws.length - 1] = F := by rw [List.getElem?_eq_getElem (by omega)] at hF; simpa using hF
  rw [hF2] at hr
  rw [lastL_get _ _ hF]
  clear hF hF2 e1
  obtain ⟨sv, g5, g6⟩ := hr.l
  obtain ⟨N, X, Y, Z, SL⟩ := F
  simp only at g5 g6
  have cl := r3right_any sv SL _ g6
  have hlI : ((d.ws.length - 1 : Nat) : Int) < (d.ws.length : Int) := by omega
  have hlN : d.ws.length - 1 < d.ws.length := by omega
  have hi0 : (0 : Int) ≤ ((d.ws.length - 1 : Nat) : Int) := by omega
  generalize d.ws.length - 1 = m at *
  replace hQ := Lib.hid hQ
  clear h hl hr hR hp
  go_enter Tryz.func60, Tryz.ntmps60
  go_wp2_with fail
  refine (Calls.mono cl ?_)
  rintro _ w1 ⟨rfl, q⟩
  go_wp2
  go_ret
  exact ⟨rfl, hQ.out.trans q⟩
theorem r8whole2_any (wv tv fv : Value) (d : Dk) (w : World) (h : IsDk w wv tv fv d) (hl : d.ts ≠ []) : Calls Tryz.prog 60 #[.agg #[wv, tv, fv], .int .i64 2] w fun e w' => e = .returned (.bool (rightS (lastL d.ts))) ∧ Q w w' := by
  obtain ⟨ao, ac, bo, bc, co, cc, rfl, rfl, rfl⟩ := h.forms
  have hQ := (Q.refl w).alloc #[.slice ao d.ws.length ac, .slice bo d.ts.length bc, .slice co d.fs.length cc] 26
  have hR := h.ts.keepB hQ.b
  have hlen := h.ts.len
  have k0 : (w.alloc (.cells #[.slice ao d.ws.length ac, .slice bo d.ts.length bc, .slice co d.fs.length cc] 26)).cell? ⟨w.heap.size, 1, none⟩ = some (.slice bo d.ts.length bc) := by rw [World.cell?_alloc_new]; rfl
  have hp : 0 < d.ts.length := List.length_pos_iff.2 hl
  have wk : IntKind.i64.wrap ((d.ts.length : Int) - 1) = ((d.ts.length - 1 : Nat) : Int) := by rw [IntKind.wrap_i64]; omega
  obtain ⟨a, cap, e1, _, _, hr⟩ := hR.at_ (i := d.ts.length - 1) (by omega)
  obtain ⟨rfl, _, rfl⟩ : bo = some a ∧ True ∧ bc = cap := by simpa using e1
  obtain ⟨F, hF⟩ : ∃ F, d.ts[d.ts.length - 1]? = some F := ⟨_, List.getElem?_eq_getElem (by omega)⟩
  have hF2 : d.ts[d.ts.length - 1] = F := by rw [List.getElem?_eq_getElem (by omega)] at hF; simpa using hF
  rw [hF2] at hr
  rw [lastL_get _ _ hF]
  clear hF hF2 e1
  obtain ⟨sv, g5, g6⟩ := hr.l
  obtain ⟨N, X, Y, Z, SL⟩ := F
  simp only at g5 g6
  have cl := r3right_any sv SL _ g6
  have hlI : ((d.ts.length - 1 : Nat) : Int) < (d.ts.length : Int) := by omega
  have hlN : d.ts.length - 1 < d.ts.length := by omega
  have hi0 : (0 : Int) ≤ ((d.ts.length - 1 : Nat) : Int) := by omega
  generalize d.ts.length - 1 = m at *
  replace hQ := Lib.hid hQ
  clear h hl hr hR hp
  go_enter Tryz.func60, Tryz.ntmps60
  go_wp2_with fail
  refine (Calls.mono cl ?_)
  rintro _ w1 ⟨rfl, q⟩
  go_wp2
  go_ret
  exact ⟨rfl, hQ.out.trans q⟩
end Go.Proofs.YtflklpflpjdbmaaGreatDoor

namespace Go.Proofs.YtflklpflpjdbmaaGreatDoor
open Go.RowKit
set_option linter.unusedVariables false
theorem dWareI : (Tryz.prog.info? 33).map (fun i => (i.zero, i.size, i.bytes)) = some (some (.agg #[.string ⟨#[]⟩, .int .i64 0, .int .i64 0, .int .i64 0, .slice none 0 0]), 5, 64) := by kernel_rfl
theorem dTipI : (Tryz.prog.info? 35).map (fun i => (i.zero, i.size, i.bytes)) = some (some (.agg #[.string ⟨#[]⟩, .int .i64 0, .int .i64 0, .int .i64 0, .slice none 0 0]), 5, 64) := by kernel_rfl
theorem dFillI : (Tryz.prog.info? 41).map (fun i => (i.zero, i.size, i.bytes)) = some (some (.agg #[.string ⟨#[]⟩, .int .i64 0, .int .i64 0, .int .i64 0]), 4, 40) := by kernel_rfl
theorem dSecI : (Tryz.prog.info? 37).map (fun i => (i.zero, i.size, i.bytes)) = some (some (.agg #[.bool false, .int .i64 0, .int .i64 0, .int .i64 0, .int .i64 0, .int .i64 0]), 6, 48) := by kernel_rfl
theorem farD {w : World} {b2 : Nat} {e2 t : TypeId} {s2 n2 : Nat} {v2 : Value} {x2 : List Value} {i : Nat} {cs : Array Value} (ho : w.heap[i]? = some (.cells cs t (0, 0))) (h2 : w.ownsRow b2 e2 s2 v2 n2 x2) (he : t ≠ e2) : v2.ownBlock ≠ some i :=
  obj_apart ho h2 (fun e => he (by simpa [kindO] using e))
/-- The deck under way: rows of its own, its box, the box of what is answered. -/
structure DpSt (w0 w : World) (R D : Nat) (d : Dk) (wv tv fv : Value) (ss tt : List Value) : Prop where
  rows : Rows w w0.heap.size wv tv fv d ss tt
  od : w.heap[D]? = some (.cells #[wv, tv, fv] 26 (0, 0))
  oR : w.heap[R]? = some (.cells #[.slice none 0 0, .slice none 0 0, .slice none 0 0] 26 (0, 0))
  b : B w0 w
structure DpN (d : Dk) (o n : Nat) : Prop where
  ok : ∀ x ∈ d.ws, wareB x
  w8 : d.ws.length ≤ 8
  t4 : d.ts.length ≤ 4
  fn : d.fs.length ≤ n
  wn : ∀ r ∈ d.ws, r.l.length ≤ n
  tn : ∀ r ∈ d.ts, r.l.length ≤ n
  op : o = 0 ∨ (o = 1 ∧ d.ws ≠ []) ∨ (o = 2 ∧ d.ts ≠ [])
theorem DpN.start : DpN dk0 0 0 := ⟨fun x hx => by simp [dk0] at hx, by simp [dk0], by simp [dk0], by simp [dk0], fun x hx => by simp [dk0] at hx, fun x hx => by simp [dk0] at hx, .inl rfl⟩
theorem DpN.up {d : Dk} {o n : Nat} (h : DpN d o n) : DpN d o (n + 1) :=
  ⟨h.ok, h.w8, h.t4, Nat.le_succ_of_le h.fn, fun r hr => Nat.le_succ_of_le (h.wn r hr), fun r hr => Nat.le_succ_of_le (h.tn r hr), h.op⟩
section
variable {w0 w w' : World} {R D : Nat} {d : Dk} {wv tv fv : Value} {ss tt : List Value}
theorem DpSt.keep (h : DpSt w0 w R D d wv tv fv ss tt) (q : B w w') : DpSt w0 w' R D d wv tv fv ss tt := ⟨h.rows.b q, q.obj h.od, q.obj h.oR, h.b.trans q⟩
theorem DpSt.gD (h : DpSt w0 w R D d wv tv fv ss tt) : D < w.heap.size := obj_lt h.od
/-- A ware more. -/
theorem DpSt.addW (h : DpSt w0 w R D d wv tv fv ss tt) (hD : w0.heap.size ≤ D) (hRD : R ≠ D) {r : Wr} (hr : r.l = []) {wv' : Value} (hg : w.grownBy w' wv.ownBlock) (ho : w'.ownsRow w0.heap.size 33 5 wv' (d.ws.length + 1) (flatR d.ws ss ++ r.cells (.slice none 0 0))) :
    DpSt w0 (w'.setCell ⟨D, 0, none⟩ wv') R D { d with ws := d.ws ++ [r] } wv' tv fv (ss ++ [.slice none 0 0]) tt := by
  have h1 := obj_grown hg h.od (farD h.od h.rows.ws (by decide))
  have h2 := obj_grown hg h.oR (farD h.oR h.rows.ws (by decide))
  have hb : B w0 w' := h.b.grownBy hg fun k hk => (ownsRow_obj h.rows.ws hk).1
  refine ⟨(h.rows.addW hr hg ho).tn (K := [some 26]) (b := w0.heap.size) (Tn.set (p := ⟨D, 0, none⟩) (Tn.refl _ _ _) h1 (by decide) hD _) (by decide) (by decide) (by decide) (by decide), by simpa using obj_set h1 0 wv', ?_, hb.setCell (p := ⟨D, 0, none⟩) hD _⟩
  exact (Below.heap_setCell _ ⟨D, 0, none⟩ _ R hRD).trans h2
theorem DpSt.addT (h : DpSt w0 w R D d wv tv fv ss tt) (hD : w0.heap.size ≤ D) (hRD : R ≠ D) {r : Wr} (hr : r.l = []) {tv' : Value} (hg : w.grownBy w' tv.ownBlock) (ho : w'.ownsRow w0.heap.size 35 5 tv' (d.ts.length + 1) (flatR d.ts tt ++ r.cells (.slice none 0 0))) :
    DpSt w0 (w'.setCell ⟨D, 1, none⟩ tv') R D { d with ts := d.ts ++ [r] } wv tv' fv ss (tt ++ [.slice none 0 0]) := by
  have h1 := obj_grown hg h.od (farD h.od h.rows.ts (by decide))
  have h2 := obj_grown hg h.oR (farD h.oR h.rows.ts (by decide))
  have hb : B w0 w' := h.b.grownBy hg fun k hk => (ownsRow_obj h.rows.ts hk).1
  refine ⟨(h.rows.addT hr hg ho).tn (K := [some 26]) (b := w0.heap.size) (Tn.set (p := ⟨D, 1, none⟩) (Tn.refl _ _ _) h1 (by decide) hD _) (by decide) (by decide) (by decide) (by decide), by simpa using obj_set h1 1 tv', ?_, hb.setCell (p := ⟨D, 1, none⟩) hD _⟩
  exact (Below.heap_setCell _ ⟨D, 1, none⟩ _ R hRD).trans h2
theorem DpSt.addF (h : DpSt w0 w R D d wv tv fv ss tt) (hD : w0.heap.size ≤ D) (hRD : R ≠ D) {f : Fl} {fv' : Value} (hg : w.grownBy w' fv.ownBlock) (ho : w'.ownsRow w0.heap.size 41 4 fv' (d.fs.length + 1) (flatF d.fs ++ f.cells)) :
    DpSt w0 (w'.setCell ⟨D, 2, none⟩ fv') R D { d with fs := d.fs ++ [f] } wv tv fv' ss tt := by
  have h1 := obj_grown hg h.od (farD h.od h.rows.fs (by decide))
  have h2 := obj_grown hg h.oR (farD h.oR h.rows.fs (by decide))
  have hb : B w0 w' := h.b.grownBy hg fun k hk => (ownsRow_obj h.rows.fs hk).1
  refine ⟨(h.rows.addF hg ho).tn (K := [some 26]) (b := w0.heap.size) (Tn.set (p := ⟨D, 2, none⟩) (Tn.refl _ _ _) h1 (by decide) hD _) (by decide) (by decide) (by decide) (by decide), by simpa using obj_set h1 2 fv', ?_, hb.setCell (p := ⟨D, 2, none⟩) hD _⟩
  exact (Below.heap_setCell _ ⟨D, 2, none⟩ _ R hRD).trans h2
end
/-- A section more: of the last ware. -/
theorem DpSt.addSW {w0 w w1 : World} {R D : Nat} {tv fv : Value} {tt : List Value} {ws0 : List Wr} {r : Wr} {ts : List Wr} {fs : List Fl} {ss0 : List Value} {v v' : Value} {gW g cap : Nat} {s : Sec} (h : DpSt w0 w R D ⟨ws0 ++ [r], ts, fs⟩ (.slice (some ⟨gW, 0, none⟩) (ws0.length + 1) cap) tv fv (ss0 ++ [v]) tt) (hs : s.I)
    (hg : w.grownBy w1 v.ownBlock) (ho : w1.ownsRow w0.heap.size 37 6 v' (r.l.length + 1) (flat r.l ++ s.cells)) (hv' : v'.ownBlock = some g) (hgg : v.ownBlock = some g ∨ g = w.heap.size) :
    DpSt w0 (w1.setCell ⟨gW, ws0.length * 5 + 4, none⟩ v') R D ⟨ws0 ++ [moreR r s], ts, fs⟩ (.slice (some ⟨gW, 0, none⟩) (ws0.length + 1) cap) tv fv (ss0 ++ [v']) tt := by
  have hsl : ss0.length = ws0.length := by have := h.rows.sl; simpa using this
  have hS : w.ownsRow w0.heap.size 37 6 v r.l.length (flat r.l) := h.rows.sh ws0.length r v (by simp) (by rw [← hsl]; simp)
  obtain ⟨hbG, curG, oG⟩ := ownsRow_obj h.rows.ws (i := gW) rfl
  have oG1 := obj_grown hg oG (farD oG hS (by decide))
  have h1 := obj_grown hg h.od (farD h.od hS (by decide))
  have h2 := obj_grown hg h.oR (farD h.oR hS (by decide))
  have hb : B w0 w1 := h.b.grownBy hg fun k hk => (ownsRow_obj hS hk).1
  have ne : ∀ {i : Nat} {cs : Array Value}, w1.heap[i]? = some (.cells cs 26 (0, 0)) → i ≠ gW := fun {i cs} hi e => by
    rw [e, oG1] at hi
    injection hi with hi
    injection hi with _ hi
    exact absurd hi (by decide)
  exact ⟨h.rows.addSW hs hg ho hv' hgg, (Below.heap_setCell _ ⟨gW, _, none⟩ _ D (ne h1)).trans h1, (Below.heap_setCell _ ⟨gW, _, none⟩ _ R (ne h2)).trans h2, hb.setCell (p := ⟨gW, _, none⟩) hbG _⟩
theorem DpSt.addST {w0 w w1 : World} {R D : Nat} {wv fv : Value} {ss : List Value} {ws0 : List Wr} {r : Wr} {ws : List Wr} {fs : List Fl} {ss0 : List Value} {v v' : Value} {gW g cap : Nat} {s : Sec} (h : DpSt w0 w R D ⟨ws, ws0 ++ [r], fs⟩ wv (.slice (some ⟨gW, 0, none⟩) (ws0.length + 1) cap) fv ss (ss0 ++ [v])) (hs : s.I)
    (hg : w.grownBy w1 v.ownBlock) (ho : w1.ownsRow w0.heap.size 37 6 v' (r.l.length + 1) (flat r.l ++ s.cells)) (hv' : v'.ownBlock = some g) (hgg : v.ownBlock = some g ∨ g = w.heap.size) :
    DpSt w0 (w1.setCell ⟨gW, ws0.length * 5 + 4, none⟩ v') R D ⟨ws, ws0 ++ [moreR r s], fs⟩ wv (.slice (some ⟨gW, 0, none⟩) (ws0.length + 1) cap) fv ss (ss0 ++ [v']) := by
  have hsl : ss0.length = ws0.length := by have := h.rows.tl; simpa using this
  have hS : w.ownsRow w0.heap.size 37 6 v r.l.length (flat r.l) := h.rows.th ws0.length r v (by simp) (by rw [← hsl]; simp)
  obtain ⟨hbG, curG, oG⟩ := ownsRow_obj h.rows.ts (i := gW) rfl
  have oG1 := obj_grown hg oG (farD oG hS (by decide))
  have h1 := obj_grown hg h.od (farD h.od hS (by decide))
  have h2 := obj_grown hg h.oR (farD h.oR hS (by decide))
  have hb : B w0 w1 := h.b.grownBy hg fun k hk => (ownsRow_obj hS hk).1
  have ne : ∀ {i : Nat} {cs : Array Value}, w1.heap[i]? = some (.cells cs 26 (0, 0)) → i ≠ gW := fun {i cs} hi e => by
    rw [e, oG1] at hi
    injection hi with hi
    injection hi with _ hi
    exact absurd hi (by decide)
  exact ⟨h.rows.addST hs hg ho hv' hgg, (Below.heap_setCell _ ⟨gW, _, none⟩ _ D (ne h1)).trans h1, (Below.heap_setCell _ ⟨gW, _, none⟩ _ R (ne h2)).trans h2, hb.setCell (p := ⟨gW, _, none⟩) hbG _⟩
theorem moreW_len : ∀ (L : List Wr) (s : Sec), (moreW L s).length = L.length
  | [], _ => rfl
  | [_], _ => rfl
  | x :: y :: L, s => by
    show (x :: moreW (y :: L) s).length = _
    rw [List.length_cons, moreW_len (y :: L) s]
    rfl
/-- What stands last. -/
theorem last_split {L : List Wr} (h : L ≠ []) : ∃ ws0 r, L = ws0 ++ [r] := ⟨_, _, (List.dropLast_concat_getLast h).symm⟩
theorem last_splitV {L : List Value} {n : Nat} (h : L.length = n + 1) : ∃ ss0 v, L = ss0 ++ [v] := ⟨_, _, (List.dropLast_concat_getLast (by intro e; rw [e] at h; simp at h)).symm⟩
theorem own_form {w : World} {base : Nat} {e : TypeId} {size n : Nat} {v : Value} {xs : List Value} (h : w.ownsRow base e size v (n + 1) xs) : ∃ g cap, v = .slice (some ⟨g, 0, none⟩) (n + 1) cap := by
  rcases h.2 with ⟨_, h0⟩ | ⟨g, cap, cur, rfl, _⟩
  · omega
  · exact ⟨_, _, rfl⟩
theorem numV_I64 (s : ByteArray) : I64 ((numV s : Nat) : Int) := by
  unfold I64
  cases ho : numOk s
  · rw [(num_no (fun h => by have := numOk_iff.2 h; rw [ho] at this; cases this)).2]; omega
  · rw [(num_yes (numOk_iff.1 ho)).2]
    have := (numOk_iff.1 ho).2.2.2
    omega
theorem numsW_I64 : ∀ (l : List Wd) (ns : List Nat), numsW l = .ok ns → ∀ n ∈ ns, I64 ((n : Nat) : Int)
  | [], ns, h, n, hn => by cases h; cases hn
  | x :: l, ns, h, n, hn => by
    rw [numsW] at h
    split at h
    · cases e : numsW l with
      | ok ms =>
        rw [e] at h
        cases h
        rcases List.mem_cons.1 hn with rfl | hn
        · exact numV_I64 _
        · exact numsW_I64 l ms e n hn
      | error p => rw [e] at h; cases h
    · cases h
theorem secW_I : ∀ {l : List Wd} {s : Sec}, secW l = .ok s → s.I
  | [], s, h => by cases h
  | k :: l, s, h => by
    rw [secW] at h
    by_cases c : l.length ≠ (if k.2 = kBox then 5 else 3)
    · rw [if_pos c] at h; cases h
    · rw [if_neg c] at h
      cases e : numsW l with
      | error p => rw [e] at h; cases h
      | ok ns =>
        rw [e] at h
        have hI := numsW_I64 l ns e
        match ns, h, hI with
        | [], h, _ => cases h
        | [_], h, _ => cases h
        | [_, _], h, _ => cases h
        | [_, _, _], h, k => cases h; exact ⟨k _ (by simp), k _ (by simp), (show I64 0 by decide), k _ (by simp), (show I64 0 by decide)⟩
        | [_, _, _, _], h, _ => cases h
        | [_, _, _, _, _], h, k => cases h; exact ⟨k _ (by simp), k _ (by simp), k _ (by simp), k _ (by simp), k _ (by simp)⟩
        | _ :: _ :: _ :: _ :: _ :: _ :: _, h, _ => cases h
theorem secW_err : ∀ {l : List Wd} {p n : Nat}, secW l = .error (p, n) → n ≠ 0
  | [], p, n, h => by cases h; decide
  | k :: l, p, n, h => by
    rw [secW] at h
    by_cases c : l.length ≠ (if k.2 = kBox then 5 else 3)
    · rw [if_pos c] at h; cases h; decide
    · rw [if_neg c] at h
      cases e : numsW l with
      | error p => rw [e] at h; cases h; decide
      | ok ns =>
        rw [e] at h
        match ns, h with
        | [], h => cases h; decide
        | [_], h => cases h; decide
        | [_, _], h => cases h; decide
        | [_, _, _], h => cases h
        | [_, _, _, _], h => cases h; decide
        | [_, _, _, _, _], h => cases h
        | _ :: _ :: _ :: _ :: _ :: _ :: _, h => cases h; decide
theorem threeW_err {m0 m1 m2 : Nat} {a b c : Wd} {p n : Nat} (h : threeW m0 m1 m2 a b c = .error (p, n)) : n ≠ 0 := by
  unfold threeW at h
  split at h
  · cases h; decide
  · split at h
    · cases h; decide
    · split at h
      · cases h; decide
      · cases h
theorem threeW_ok {m0 m1 m2 : Nat} {a b c : Wd} {x y z : Nat} (h : threeW m0 m1 m2 a b c = .ok (x, y, z)) : 1 ≤ x ∧ x ≤ m0 ∧ 1 ≤ y ∧ y ≤ m1 := by
  unfold threeW at h
  split at h
  · cases h
  · split at h
    · cases h
    · split at h
      · cases h
      · rename_i h1 h2 h3
        cases h
        simp only [not_or] at h1 h2
        omega
theorem recW_ok {had : List Wr} {most m0 m1 m2 : Nat} : ∀ {l : List Wd} {r : Wr}, recW had most m0 m1 m2 l = .ok r → had.length < most ∧ 1 ≤ r.x ∧ r.x ≤ m0 ∧ 1 ≤ r.y ∧ r.y ≤ m1
  | [], r, h => by cases h
  | [_], r, h => by cases h
  | [_, _], r, h => by cases h
  | [_, _, _], r, h => by cases h
  | [_, _, _, _], r, h => by cases h
  | _ :: _ :: _ :: _ :: _ :: _ :: _, r, h => by cases h
  | [k, n, a, b, c], r, h => by
    rw [recW] at h
    split at h
    · cases h
    · split at h
      · cases h
      · cases e : threeW m0 m1 m2 a b c with
        | error q => rw [e] at h; cases h
        | ok q =>
          obtain ⟨x, y, z⟩ := q
          rw [e] at h
          have := threeW_ok e
          cases h
          simp only
          omega
theorem recW_err {had : List Wr} {most m0 m1 m2 : Nat} : ∀ {l : List Wd} {p n : Nat}, recW had most m0 m1 m2 l = .error (p, n) → n ≠ 0
  | [], p, n, h => by cases h; decide
  | [_], p, n, h => by cases h; decide
  | [_, _], p, n, h => by cases h; decide
  | [_, _, _], p, n, h => by cases h; decide
  | [_, _, _, _], p, n, h => by cases h; decide
  | _ :: _ :: _ :: _ :: _ :: _ :: _, p, n, h => by cases h; decide
  | [k, x, a, b, c], p, n, h => by
    rw [recW] at h
    split at h
    · cases h; decide
    · split at h
      · cases h; decide
      · cases e : threeW m0 m1 m2 a b c with
        | error q => rw [e] at h; cases h; exact threeW_err e
        | ok q => rw [e] at h; cases h
theorem fillW_err {d : Dk} : ∀ {l : List Wd} {p n : Nat}, fillW d l = .error (p, n) → n ≠ 0
  | [], p, n, h => by cases h; decide
  | [_], p, n, h => by cases h; decide
  | [_, _], p, n, h => by cases h; decide
  | _ :: _ :: _ :: _ :: _, p, n, h => by cases h; decide
  | [_, x, v], p, n, h => by
    rw [fillW] at h
    split at h
    · cases h; decide
    · split at h
      · cases h; decide
      · split at h
        · cases h; decide
        · cases h
theorem sec_uni {l : List Wd} {w w' : World} {e : Ending} (h : SecRes l w e w') : ∃ (s : Sec) (p n : Nat), e = .returned (.tuple #[s.agg, .int .i64 (p : Int), .int .i64 (n : Int)]) ∧ B w w' ∧ ((n = 0 ∧ secW l = .ok s ∧ s.I) ∨ (n ≠ 0 ∧ secW l = .error (p, n))) := by
  rcases h with ⟨s, h1, rfl, h3⟩ | ⟨p, n, h1, rfl, h3⟩
  · exact ⟨s, 0, 0, rfl, h3, .inl ⟨rfl, h1, secW_I h1⟩⟩
  · exact ⟨sec0, p, n, rfl, h3, .inr ⟨secW_err h1, h1⟩⟩
theorem rec_uni {had : List Wr} {most m0 m1 m2 : Nat} {l : List Wd} {w w' : World} {e : Ending} (h : RecRes had most m0 m1 m2 l w e w') : ∃ (r : Wr) (p n : Nat), e = .returned (.tuple #[Wr.agg r, .int .i64 (p : Int), .int .i64 (n : Int)]) ∧ r.l = [] ∧ B w w' ∧ ((n = 0 ∧ recW had most m0 m1 m2 l = .ok r) ∨ (n ≠ 0 ∧ recW had most m0 m1 m2 l = .error (p, n))) := by
  rcases h with ⟨s, h1, h2, rfl, h3⟩ | ⟨p, n, h1, rfl, h3⟩
  · exact ⟨s, 0, 0, rfl, h2, h3, .inl ⟨rfl, h1⟩⟩
  · exact ⟨wr0, p, n, rfl, rfl, h3, .inr ⟨recW_err h1, h1⟩⟩
theorem fill_uni {d : Dk} {l : List Wd} {w w' : World} {e : Ending} (h : FillRes d l w e w') : ∃ (f : Fl) (p n : Nat), e = .returned (.tuple #[.agg #[.string f.n, .int .i64 f.r, .int .i64 f.c, .int .i64 f.v], .int .i64 (p : Int), .int .i64 (n : Int)]) ∧ B w w' ∧ ((n = 0 ∧ fillW d l = .ok f) ∨ (n ≠ 0 ∧ fillW d l = .error (p, n))) := by
  rcases h with ⟨s, h1, rfl, h3⟩ | ⟨p, n, h1, rfl, h3⟩
  · exact ⟨s, 0, 0, rfl, h3, .inl ⟨rfl, h1⟩⟩
  · exact ⟨⟨⟨#[]⟩, 0, 0, 0⟩, p, n, rfl, h3, .inr ⟨fillW_err h1, h1⟩⟩
theorem whole_uni (wv tv fv : Value) (d : Dk) (o n : Nat) (w : World) (h : IsDk w wv tv fv d) (hN : DpN d o n) : Calls Tryz.prog 60 #[.agg #[wv, tv, fv], .int .i64 (o : Int)] w fun e w' => e = .returned (.bool (wholeD d o)) ∧ Q w w' := by
  rcases hN.op with rfl | ⟨rfl, ho⟩ | ⟨rfl, ho⟩
  · exact r8whole0_any wv tv fv w
  · exact r8whole1_any wv tv fv d w h ho
  · exact r8whole2_any wv tv fv d w h ho
theorem DpN.sec {d : Dk} {o n : Nat} (h : DpN d o n) (s : Sec) : DpN (d.add o s) o (n + 1) := by
  have key : ∀ (L : List Wr), (∀ r ∈ L, r.l.length ≤ n) → ∀ r ∈ moreW L s, r.l.length ≤ n + 1 := fun L hL r hr => by
    rcases List.eq_nil_or_concat L with rfl | ⟨L0, x, rfl⟩
    · cases hr
    · rw [List.concat_eq_append, moreW_snoc] at hr
      rcases List.mem_append.1 hr with hr | hr
      · exact Nat.le_succ_of_le (hL r (by simp [hr]))
      · obtain rfl := List.mem_singleton.1 hr
        have := hL x (by simp)
        simp [moreR]
        omega
  have keyB : ∀ (L : List Wr), (∀ r ∈ L, wareB r) → ∀ r ∈ moreW L s, wareB r := fun L hL r hr => by
    rcases List.eq_nil_or_concat L with rfl | ⟨L0, x, rfl⟩
    · cases hr
    · rw [List.concat_eq_append, moreW_snoc] at hr
      rcases List.mem_append.1 hr with hr | hr
      · exact hL r (by simp [hr])
      · obtain rfl := List.mem_singleton.1 hr
        exact hL x (by simp)
  have keyE : ∀ (L : List Wr), L ≠ [] → moreW L s ≠ [] := fun L hL e => hL (by
    have := moreW_len L s
    rw [e] at this
    exact List.length_eq_zero_iff.1 this.symm)
  rcases h.op with rfl | ⟨rfl, ho⟩ | ⟨rfl, ho⟩
  · exact h.up
  · refine ⟨keyB _ h.ok, ?_, h.t4, Nat.le_succ_of_le h.fn, key _ h.wn, fun r hr => Nat.le_succ_of_le (h.tn r hr), .inr (.inl ⟨rfl, keyE _ ho⟩)⟩
    show (moreW d.ws s).length ≤ 8
    rw [moreW_len]
    exact h.w8
  · refine ⟨h.ok, h.w8, ?_, Nat.le_succ_of_le h.fn, fun r hr => Nat.le_succ_of_le (h.wn r hr), key _ h.tn, .inr (.inr ⟨rfl, keyE _ ho⟩)⟩
    show (moreW d.ts s).length ≤ 4
    rw [moreW_len]
    exact h.t4
theorem DpN.ware {d : Dk} {o n : Nat} (h : DpN d o n) {l : List Wd} {r : Wr} (hr : recW d.ws 8 8 12 1000000 l = .ok r) (hl : r.l = []) : DpN { d with ws := d.ws ++ [r] } 1 (n + 1) := by
  obtain ⟨k1, k2, k3, k4, k5⟩ := recW_ok hr
  refine ⟨fun x hx => ?_, by simp; omega, h.t4, Nat.le_succ_of_le h.fn, fun x hx => ?_, fun x hx => Nat.le_succ_of_le (h.tn x hx), .inr (.inl ⟨rfl, by simp⟩)⟩
  · rcases List.mem_append.1 hx with hx | hx
    · exact h.ok x hx
    · obtain rfl := List.mem_singleton.1 hx
      exact ⟨k2, by omega, k4, by omega⟩
  · rcases List.mem_append.1 hx with hx | hx
    · exact Nat.le_succ_of_le (h.wn x hx)
    · obtain rfl := List.mem_singleton.1 hx
      rw [hl]
      exact Nat.zero_le _
theorem DpN.tip {d : Dk} {o n : Nat} (h : DpN d o n) {l : List Wd} {r : Wr} (hr : recW d.ts 4 20000000 60000 10000 l = .ok r) (hl : r.l = []) : DpN { d with ts := d.ts ++ [r] } 2 (n + 1) := by
  obtain ⟨k1, k2, k3, k4, k5⟩ := recW_ok hr
  refine ⟨h.ok, h.w8, by simp; omega, Nat.le_succ_of_le h.fn, fun x hx => Nat.le_succ_of_le (h.wn x hx), fun x hx => ?_, .inr (.inr ⟨rfl, by simp⟩)⟩
  rcases List.mem_append.1 hx with hx | hx
  · exact Nat.le_succ_of_le (h.tn x hx)
  · obtain rfl := List.mem_singleton.1 hx
    rw [hl]
    exact Nat.zero_le _
theorem DpN.fill {d : Dk} {o n : Nat} (h : DpN d o n) (f : Fl) : DpN { d with fs := d.fs ++ [f] } 0 (n + 1) :=
  ⟨h.ok, h.w8, h.t4, by have := h.fn; simp; omega, fun x hx => Nat.le_succ_of_le (h.wn x hx), fun x hx => Nat.le_succ_of_le (h.tn x hx), .inl rfl⟩
/-- What is answered: the deck, what stands behind it, or the place and the number of what is wrong. -/
def DpRes (L : List (List Wd)) (w : World) (r : Ending) (w' : World) : Prop :=
  ∃ wv tv fv rv, r = .returned (.tuple #[.agg #[wv, tv, fv], rv, .int .i64 ((parseD L dk0 0 0).2.2.1 : Nat), .int .i64 ((parseD L dk0 0 0).2.2.2 : Nat)]) ∧ IsDk w' wv tv fv (parseD L dk0 0 0).1 ∧ IsLnO w' rv (parseD L dk0 0 0).2.1 ∧ B w w'
end Go.Proofs.YtflklpflpjdbmaaGreatDoor
