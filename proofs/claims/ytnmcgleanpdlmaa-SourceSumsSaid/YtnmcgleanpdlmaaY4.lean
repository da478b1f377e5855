/-
  Contract of the document's well of a number; The code's wells: the number of a well, the well of a number; Transfers: what steps come to, one by one. No program is named here; A list in new memory: append onto nil of what comes in; What becomes of the world where blocks of known kinds may turn, from a base on. No program is named here; The statements' shapes of a number; Sections in memory that a call owns: facts for walks; A deck that grows: rows inside of rows, all the call's own.
-/
import Derived.Maps.AppendAt
import Derived.Test.YtnmcgleanpdlmaaChecked
import Derived.Lib.Hide
import Derived.KernelRfl
import Derived.OwnWalk
import Derived.Laws.OwnMore
import Derived.Deep.AppendLies
import Derived.Test.YtnmcgleanpdlmaaY1
import Derived.Test.YtnmcgleanpdlmaaY2
import Derived.Test.YtnmcgleanpdlmaaY3
namespace Go.Proofs.Ytnmcgleanpdlmaa
open Go.RowKit
set_option linter.unusedVariables false
/-- The well of a number. -/
def atW : List Wr → Int → Option (ByteArray × Int × Int)
  | [], _ => none
  | w :: ws, k => if k < 0 then none else if k < w.x * w.y then some (w.n, k / w.y, k % w.y) else atW ws (k - w.x * w.y)
def wellV : Option (ByteArray × Int × Int) → Value
  | none => .agg #[.string ⟨#[]⟩, .int .i64 0, .int .i64 0]
  | some (n, r, c) => .agg #[.string n, .int .i64 r, .int .i64 c]
theorem at_cons {ws : List Wr} {i : Nat} (hi : i < ws.length) (k : Int) : atW (ws.drop i) k = if k < 0 then none else if k < (ws[i]).x * (ws[i]).y then some ((ws[i]).n, k / (ws[i]).y, k % (ws[i]).y) else atW (ws.drop (i + 1)) (k - (ws[i]).x * (ws[i]).y) := by
  rw [List.drop_eq_getElem_cons hi]
  rfl
theorem at_neg {k : Int} (hk : k < 0) : ∀ ws : List Wr, atW ws k = none
  | [] => rfl
  | w :: ws => by rw [atW, if_pos hk]
set_option maxRecDepth 100000 in
set_option maxHeartbeats 2000000 in
theorem r8at_any (wv tv fv : Value) (d : Dk) (k : Int) (hk : I64 k) (w : World) (h : IsDk w wv tv fv d) (hb : ∀ x ∈ d.ws, wareB x) : Calls Try.prog 17 #[.agg #[wv, tv, fv], .int .i64 k] w fun e w' => e = .returned (.tuple #[wellV (atW d.ws k), .bool (atW d.ws k).isSome]) ∧ B w w' := by
  obtain ⟨ao, ac, bo, bc, co, cc, rfl, rfl, rfl⟩ := h.forms
  have hQ := ((B.refl w).alloc #[.slice ao d.ws.length ac, .slice bo d.ts.length bc, .slice co d.fs.length cc] 39).alloc #[.string ⟨#[]⟩, .int .i64 0, .int .i64 0] 50
  have hR := h.ws.keepB hQ
  obtain ⟨W, hW⟩ : ∃ W, (w.alloc (.cells #[.slice ao d.ws.length ac, .slice bo d.ts.length bc, .slice co d.fs.length cc] 39)).alloc (.cells #[.string ⟨#[]⟩, .int .i64 0, .int .i64 0] 50) = W := ⟨_, rfl⟩
  have e1 : (w.alloc (.cells #[.slice ao d.ws.length ac, .slice bo d.ts.length bc, .slice co d.fs.length cc] 39)).heap.size = w.heap.size + 1 := by simp
  have oD := ((B.refl _).alloc #[.string ⟨#[]⟩, .int .i64 0, .int .i64 0] 50).obj (obj_new w (.cells #[.slice ao d.ws.length ac, .slice bo d.ts.length bc, .slice co d.fs.length cc] 39))
  have oE := obj_new (w.alloc (.cells #[.slice ao d.ws.length ac, .slice bo d.ts.length bc, .slice co d.fs.length cc] 39)) (.cells #[.string ⟨#[]⟩, .int .i64 0, .int .i64 0] 50)
  rw [e1] at oE
  rw [hW] at hR hQ oD oE
  clear h e1
  obtain ⟨RR, hRR⟩ : ∃ RR, atW d.ws k = RR := ⟨_, rfl⟩
  rw [hRR]
  go_enter Try.func17, Try.ntmps17
  go_wp2_with fail
  try rw [hW]
  clear hW
  obtain ⟨H, hH⟩ : ∃ H, w.heap.size = H := ⟨_, rfl⟩
  obtain ⟨E, hE⟩ : ∃ E, w.heap.size + 1 = E := ⟨_, rfl⟩
  have hEg : w.heap.size ≤ E := by omega
  have hne : ¬ E = H := by omega
  have hne2 : ¬ H = E := by omega
  rw [hE] at oE ⊢
  rw [hH] at oD ⊢
  clear hE hH
  go_loopw [1, 6] (fun kv iv wr => ∃ (i : Nat) (K : Int), i ≤ d.ws.length ∧ iv = .int .i64 i ∧ kv = .int .i64 K ∧ I64 K ∧ RR = atW (d.ws.drop i) K ∧ B W wr) (fun _ iv _ => d.ws.length + 1 - (intOf iv).toNat)
  case atStart => exact ⟨0, k, Nat.zero_le _, rfl, rfl, hk, hRR.symm, B.refl _⟩
  case round =>
    obtain ⟨i, K, hi, rfl, rfl, hK, hRi, hBi⟩ := hrel
    obtain ⟨wo, rfl⟩ : ∃ wo : World, wo = wr := ⟨_, rfl⟩
    clear hRR hk
    have oD1 := hBi.obj oD
    have oE1 := hBi.obj oE
    have k0 : wo.cell? ⟨H, 0, none⟩ = some (.slice ao d.ws.length ac) := obj_cell oD1 0
    have B1 := hQ.trans hBi
    by_cases hgo : i < d.ws.length ∧ 0 ≤ K
    · obtain ⟨hl, hK0⟩ := hgo
      have hlB : decide ((i : Int) < (d.ws.length : Int)) = true := decide_eq_true (by omega)
      have hlI : (i : Int) < (d.ws.length : Int) := by omega
      have hKB : decide ((0 : Int) ≤ K) = true := decide_eq_true hK0
      have hi0 : (0 : Int) ≤ (i : Int) := by omega
      have wk1 : IntKind.i64.wrap ((i : Int) + 1) = (i : Int) + 1 := by rw [IntKind.wrap_i64]; have := hR.len; omega
      obtain ⟨a, cap, e1, _, _, hr⟩ := (hR.keepB hBi).at_ hl
      obtain ⟨rfl, _, rfl⟩ : ao = some a ∧ True ∧ ac = cap := by simpa using e1
      have hbi := hb _ (List.getElem_mem hl)
      rw [at_cons hl, if_neg (by omega)] at hRi
      obtain ⟨F, hF⟩ : ∃ F, d.ws[i] = F := ⟨_, rfl⟩
      rw [hF] at hr hRi hbi
      obtain ⟨b1, b2, b3, b4⟩ := hbi
      obtain ⟨g1, g2, g3, g4, sv, g5, g6⟩ := hr
      obtain ⟨so, sc, rfl⟩ := secs_form g6
      obtain ⟨sn, hsn⟩ : ∃ sn, F.l.length = sn := ⟨_, rfl⟩
      rw [hsn] at g5 g6
      clear hsn
      obtain ⟨N, X, Y, Z, SL⟩ := F
      simp only at g1 g2 g3 g4 g5 hRi b1 b2 b3 b4
      have hxy := mul_small (a := X) (b := Y) (by omega) b2 (by omega) b4
      obtain ⟨P, hP⟩ : ∃ P, X * Y = P := ⟨_, rfl⟩
      rw [hP] at hxy hRi
      have w1 : IntKind.i64.wrap (X * Y) = P := by rw [hP, IntKind.wrap_i64]; omega
      have q1 := (B.refl wo).alloc #[.string N, .int .i64 X, .int .i64 Y, .int .i64 Z, .slice so sn sc] 64
      have oW := obj_new wo (.cells #[.string N, .int .i64 X, .int .i64 Y, .int .i64 Z, .slice so sn sc] 64)
      obtain ⟨W1, hW1⟩ : ∃ W1, wo.alloc (.cells #[.string N, .int .i64 X, .int .i64 Y, .int .i64 Z, .slice so sn sc] 64) = W1 := ⟨_, rfl⟩
      rw [hW1] at oW q1
      have oE2 := q1.obj oE1
      have hElt := obj_lt oE1
      have p0 : W1.cell? ⟨wo.heap.size, 0, none⟩ = some (.string N) := obj_cell oW 0
      have p1 : W1.cell? ⟨wo.heap.size, 1, none⟩ = some (.int .i64 X) := obj_cell oW 1
      have p2 : W1.cell? ⟨wo.heap.size, 2, none⟩ = some (.int .i64 Y) := obj_cell oW 2
      have HL := Lib.hid hl
      clear hF e1 g6 hb hi hl hR oD1 oE1
      by_cases hlt : K < P
      · have hltB : decide (K < P) = true := decide_eq_true hlt
        rw [if_pos hlt] at hRi
        have y0 : ¬ Y = 0 := by omega
        have dv : IntKind.i64.wrap (K.tdiv Y) = K / Y := by
          rw [Int.tdiv_eq_ediv_of_nonneg hK0, IntKind.wrap_i64]
          have := Int.ediv_le_self Y hK0
          have := Int.ediv_nonneg hK0 (by omega : 0 ≤ Y)
          unfold I64 at hK
          omega
        have rv : IntKind.i64.wrap (K.tmod Y) = K % Y := by
          rw [Int.tmod_eq_emod_of_nonneg hK0, IntKind.wrap_i64]
          have := Int.emod_lt_of_pos K (by omega : 0 < Y)
          have := Int.emod_nonneg K (by omega : Y ≠ 0)
          omega
        have dv' : K.tdiv Y = K / Y := Int.tdiv_eq_ediv_of_nonneg hK0
        have rv' : K.tmod Y = K % Y := Int.tmod_eq_emod_of_nonneg hK0
        have r0 : W1.cell? ⟨E, 0, none⟩ = some (.string ⟨#[]⟩) := obj_cell oE2 0
        have r1 : W1.cell? ⟨E, 1, none⟩ = some (.int .i64 0) := obj_cell oE2 1
        have r2 : W1.cell? ⟨E, 2, none⟩ = some (.int .i64 0) := obj_cell oE2 2
        have f0 := obj_free oE2 0
        have f1 := obj_free oE2 1
        have f2 := obj_free oE2 2
        have hEw : ¬ E = wo.heap.size := by omega
        have hwE : ¬ wo.heap.size = E := by omega
        have oF := obj_three oE2 (.string N) (.int .i64 (K / Y)) (.int .i64 (K % Y))
        have hqF := b_three (B1.trans q1) hEg (.string N) (.int .i64 (K / Y)) (.int .i64 (K % Y))
        have HX := Lib.hid (And.intro hRi (And.intro oF hqF))
        clear hRi oF hqF hP hxy hlt oW oE2 q1 B1 hQ hBi oD oE
        rw [dv'] at dv
        rw [rv'] at rv
        generalize K / Y = QQ at *
        generalize K % Y = MM at *
        go_wp2_with fail
        try rw [hW1]
        generalize wo.heap.size = G at *
        have p0' : W1.drew.cell? ⟨G, 0, none⟩ = some (.string N) := p0
        have p2' : W1.drew.cell? ⟨G, 2, none⟩ = some (.int .i64 Y) := p2
        have r0' : W1.drew.cell? ⟨E, 0, none⟩ = some (.string ⟨#[]⟩) := r0
        have r1' : W1.drew.cell? ⟨E, 1, none⟩ = some (.int .i64 0) := r1
        have r2' : W1.drew.cell? ⟨E, 2, none⟩ = some (.int .i64 0) := r2
        have f0' : W1.drew.frozen? ⟨E, 0, none⟩ = false := f0
        have f1' : W1.drew.frozen? ⟨E, 1, none⟩ = false := f1
        have f2' : W1.drew.frozen? ⟨E, 2, none⟩ = false := f2
        go_region
        all_goals
          go_wp2
          obtain ⟨hRi, oF, hqF⟩ := HX.out
          have z0 := obj_cell oF 0
          have z1 := obj_cell oF 1
          have z2 := obj_cell oF 2
          exact bodyPost_ret (v := .tuple #[.agg #[.string N, .int .i64 QQ, .int .i64 MM], .bool true]) (by simp [results, Try.results17, go_sem, z0, z1, z2]) rfl ⟨by rw [hRi]; rfl, hqF.drew⟩
      · have hltB : decide (K < P) = false := decide_eq_false hlt
        rw [if_neg hlt] at hRi
        have w2 : IntKind.i64.wrap (K - P) = K - P := by rw [IntKind.wrap_i64]; unfold I64 at hK; omega
        have hK2 : I64 (K - P) := by unfold I64 at hK ⊢; omega
        have HX := Lib.hid (And.intro hRi (And.intro hK2 (hBi.trans q1)))
        clear hRi hK2 hP hxy hlt oW oE2 q1 B1 hQ hBi oD oE hK
        go_wp2
        go_roundw
        case rel =>
          obtain ⟨h1, h2, h3⟩ := HX.out
          have hl := HL.out
          exact ⟨i + 1, K - P, by omega, by go_num, rfl, h2, h1, h3⟩
        case measure => have := HL.out; simp [intOf]; omega
    · have hnone : RR = none := by
        rw [hRi]
        by_cases hl : i < d.ws.length
        · exact at_neg (by omega) _
        · rw [List.drop_eq_nil_of_le (by omega)]; rfl
      have r0 : wo.cell? ⟨E, 0, none⟩ = some (.string ⟨#[]⟩) := obj_cell oE1 0
      have r1 : wo.cell? ⟨E, 1, none⟩ = some (.int .i64 0) := obj_cell oE1 1
      have r2 : wo.cell? ⟨E, 2, none⟩ = some (.int .i64 0) := obj_cell oE1 2
      have f0 := obj_free oE1 0
      have f1 := obj_free oE1 1
      have f2 := obj_free oE1 2
      have oF := obj_three oE1 (.string ⟨#[]⟩) (.int .i64 0) (.int .i64 0)
      have hqF := b_three B1 hEg (.string ⟨#[]⟩) (.int .i64 0) (.int .i64 0)
      have HX := Lib.hid (And.intro hnone (And.intro oF hqF))
      have hor : (decide ((i : Int) < (d.ws.length : Int)) = false ∧ decide (i < d.ws.length) = false) ∨ (decide ((i : Int) < (d.ws.length : Int)) = true ∧ decide (i < d.ws.length) = true ∧ decide ((0 : Int) ≤ K) = false) := by
        by_cases hl : i < d.ws.length
        · exact .inr ⟨decide_eq_true (by omega), decide_eq_true hl, decide_eq_false (by omega)⟩
        · exact .inl ⟨decide_eq_false (by omega), decide_eq_false hl⟩
      clear hRi hnone oF hqF hgo hR hb hK hi oD oE oD1 oE1 B1 hQ hBi
      rcases hor with ⟨hA, hB⟩ | ⟨hA, hA', hB⟩
      all_goals
        go_wp2
        obtain ⟨hnone, oF, hqF⟩ := HX.out
        have z0 := obj_cell oF 0
        have z1 := obj_cell oF 1
        have z2 := obj_cell oF 2
        exact bodyPost_ret (v := .tuple #[.agg #[.string ⟨#[]⟩, .int .i64 0, .int .i64 0], .bool false]) (by simp [results, Try.results17, go_sem, z0, z1, z2]) rfl ⟨by rw [hnone]; rfl, hqF⟩
end Go.Proofs.Ytnmcgleanpdlmaa

namespace Go.Proofs.Ytnmcgleanpdlmaa
open Go.RowKit
set_option linter.unusedVariables false
/-- The number of a well, as the code looks for it. -/
def indexC : List Wr → Int → ByteArray → Int → Int → Option Int
  | [], _, _, _, _ => none
  | w :: ws, k, n, r, c => if hasB w.n w.x w.y n r c then some (k + (r * w.y + c)) else indexC ws (k + w.x * w.y) n r c
theorem indexC_cons {ws : List Wr} {i : Nat} (hi : i < ws.length) (K : Int) (n : ByteArray) (r c : Int) : indexC (ws.drop i) K n r c = (if hasB (ws[i]).n (ws[i]).x (ws[i]).y n r c then some (K + (r * (ws[i]).y + c)) else indexC (ws.drop (i + 1)) (K + (ws[i]).x * (ws[i]).y) n r c) := by
  rw [List.drop_eq_getElem_cons hi]
  rfl
theorem hasB_in {N : ByteArray} {X Y : Int} {n : ByteArray} {r c : Int} (h : hasB N X Y n r c = true) : 0 ≤ r ∧ r < X ∧ 0 ≤ c ∧ c < Y := by
  unfold hasB at h
  simp only [Bool.and_eq_true, decide_eq_true_eq] at h
  omega
set_option maxRecDepth 100000 in
set_option maxHeartbeats 2000000 in
theorem windex_any (wv tv fv : Value) (d : Dk) (n : ByteArray) (r c : Int) (hr : I64 r) (hc : I64 c) (w : World) (h : IsDk w wv tv fv d) (hb : ∀ x ∈ d.ws, wareB x) (h100 : d.ws.length ≤ 100) : Calls Try.prog 42 #[.agg #[wv, tv, fv], .agg #[.string n, .int .i64 r, .int .i64 c]] w fun e w' => e = .returned (.tuple #[.int .i64 ((indexC d.ws 0 n r c).getD 0), .bool (indexC d.ws 0 n r c).isSome]) ∧ Q w w' := by
  obtain ⟨ao, ac, bo, bc, co, cc, rfl, rfl, rfl⟩ := h.forms
  have hQ := ((Q.refl w).alloc #[.slice ao d.ws.length ac, .slice bo d.ts.length bc, .slice co d.fs.length cc] 39).alloc #[.string n, .int .i64 r, .int .i64 c] 50
  have hR := h.ws.keepB hQ.b
  have e1 : (w.alloc (.cells #[.slice ao d.ws.length ac, .slice bo d.ts.length bc, .slice co d.fs.length cc] 39)).heap.size = w.heap.size + 1 := by simp
  have oD := ((B.refl _).alloc #[.string n, .int .i64 r, .int .i64 c] 50).obj (obj_new w (.cells #[.slice ao d.ws.length ac, .slice bo d.ts.length bc, .slice co d.fs.length cc] 39))
  have oE := obj_new (w.alloc (.cells #[.slice ao d.ws.length ac, .slice bo d.ts.length bc, .slice co d.fs.length cc] 39)) (.cells #[.string n, .int .i64 r, .int .i64 c] 50)
  rw [e1] at oE
  obtain ⟨W, hW⟩ : ∃ W, (w.alloc (.cells #[.slice ao d.ws.length ac, .slice bo d.ts.length bc, .slice co d.fs.length cc] 39)).alloc (.cells #[.string n, .int .i64 r, .int .i64 c] 50) = W := ⟨_, rfl⟩
  rw [hW] at hR hQ oD oE
  have k0 : W.cell? ⟨w.heap.size, 0, none⟩ = some (.slice ao d.ws.length ac) := obj_cell oD 0
  replace hQ := Lib.hid hQ
  clear h e1
  obtain ⟨R, hRR⟩ : ∃ R, indexC d.ws 0 n r c = R := ⟨_, rfl⟩
  rw [hRR]
  go_enter Try.func42, Try.ntmps42
  go_wp2_with fail
  try rw [hW]
  go_wp2_with fail
  clear hW k0 oD
  obtain ⟨E, hE⟩ : ∃ E, w.heap.size + 1 = E := ⟨_, rfl⟩
  rw [hE] at oE ⊢
  clear hE
  generalize w.heap.size = H at *
  go_loopw [6, 12] (fun nv iv wr => ∃ (i : Nat) (K : Int), i ≤ d.ws.length ∧ iv = .int .i64 i ∧ nv = .int .i64 K ∧ 0 ≤ K ∧ K ≤ 96 * (i : Int) ∧ R = indexC (d.ws.drop i) K n r c ∧ Q W wr) (fun _ iv _ => d.ws.length + 1 - (intOf iv).toNat)
  case atStart => exact ⟨0, 0, Nat.zero_le _, rfl, rfl, by omega, by omega, hRR.symm, Q.refl _⟩
  case round =>
    obtain ⟨i, K, hi, rfl, rfl, hK0, hK1, hRi, hQi⟩ := hrel
    obtain ⟨wo, rfl⟩ : ∃ wo : World, wo = wr := ⟨_, rfl⟩
    clear hRR
    have oE1 := hQi.b.obj oE
    by_cases hl : i < d.ws.length
    · have hlB : decide ((i : Int) < (d.ws.length : Int)) = true := decide_eq_true (by omega)
      have hlI : (i : Int) < (d.ws.length : Int) := by omega
      have hi0 : (0 : Int) ≤ (i : Int) := by omega
      have wk1 : IntKind.i64.wrap ((i : Int) + 1) = (i : Int) + 1 := by rw [IntKind.wrap_i64]; omega
      obtain ⟨a, cap, e1, _, _, hrec⟩ := (hR.keepB hQi.b).at_ hl
      obtain ⟨rfl, _, rfl⟩ : ao = some a ∧ True ∧ ac = cap := by simpa using e1
      have hbi := hb _ (List.getElem_mem hl)
      rw [indexC_cons hl] at hRi
      obtain ⟨F, hF⟩ : ∃ F, d.ws[i] = F := ⟨_, rfl⟩
      rw [hF] at hrec hRi hbi
      obtain ⟨g1, g2, g3, g4, sv, g5, g6⟩ := hrec
      obtain ⟨so, sc, rfl⟩ := secs_form g6
      obtain ⟨sn, hsn⟩ : ∃ sn, F.l.length = sn := ⟨_, rfl⟩
      rw [hsn] at g5 g6
      clear hsn
      obtain ⟨N, X, Y, Z, SL⟩ := F
      have cs := fun w => wsize_any N X Y Z _ so sn sc rfl hbi w
      obtain ⟨b1, b2, b3, b4⟩ := hbi
      simp only at g1 g2 g3 g4 g5 hRi b1 b2 b3 b4
      have ch := fun w => whas_any N X Y Z _ so sn sc rfl n r c (by unfold I64; omega) (by unfold I64; omega) hr hc w
      have q1 := (Q.refl wo).alloc #[.string N, .int .i64 X, .int .i64 Y, .int .i64 Z, .slice so sn sc] 64
      have oE2 := q1.b.obj oE1
      have oW := obj_new wo (.cells #[.string N, .int .i64 X, .int .i64 Y, .int .i64 Z, .slice so sn sc] 64)
      have HL := Lib.hid hl
      have hQ1 := hQi.trans q1
      obtain ⟨W1, hW1⟩ : ∃ W1, wo.alloc (.cells #[.string N, .int .i64 X, .int .i64 Y, .int .i64 Z, .slice so sn sc] 64) = W1 := ⟨_, rfl⟩
      rw [hW1] at hQ1 oW oE2
      have p0 : W1.cell? ⟨wo.heap.size, 0, none⟩ = some (.string N) := obj_cell oW 0
      have p1 : W1.cell? ⟨wo.heap.size, 1, none⟩ = some (.int .i64 X) := obj_cell oW 1
      have p2 : W1.cell? ⟨wo.heap.size, 2, none⟩ = some (.int .i64 Y) := obj_cell oW 2
      have p3 : W1.cell? ⟨wo.heap.size, 3, none⟩ = some (.int .i64 Z) := obj_cell oW 3
      have p4 : W1.cell? ⟨wo.heap.size, 4, none⟩ = some (.slice so sn sc) := obj_cell oW 4
      have r0 : W1.cell? ⟨E, 0, none⟩ = some (.string n) := obj_cell oE2 0
      have r1 : W1.cell? ⟨E, 1, none⟩ = some (.int .i64 r) := obj_cell oE2 1
      have r2 : W1.cell? ⟨E, 2, none⟩ = some (.int .i64 c) := obj_cell oE2 2
      have hEw : ¬ E = wo.heap.size := by have := obj_lt oE1; omega
      have hwE : ¬ wo.heap.size = E := by omega
      clear hF e1 g6 q1 hb hl hR oE1 oE hQi
      cases hB : hasB N X Y n r c
      · rw [hB] at ch hRi
        rw [if_neg (by decide)] at hRi
        have hxy := mul_small (a := X) (b := Y) (by omega) b2 (by omega) b4
        generalize X * Y = P at *
        have w2 : IntKind.i64.wrap (K + P) = K + P := by rw [IntKind.wrap_i64]; omega
        have HX := Lib.hid (And.intro hRi (And.intro (show 0 ≤ K + P ∧ K + P ≤ 96 * ((i : Int) + 1) by omega) hQ1))
        clear hRi hxy hB hQ1 b1 b2 b3 b4
        go_wp2_with fail
        try rw [hW1]
        go_wp2_with fail
        refine (ch _).mono ?_
        rintro _ w2 ⟨rfl, q2⟩
        replace p0 := q2.keep p0
        replace p1 := q2.keep p1
        replace p2 := q2.keep p2
        replace p3 := q2.keep p3
        replace p4 := q2.keep p4
        go_wp2_with fail
        refine (cs _).mono ?_
        rintro _ w3 ⟨rfl, q3⟩
        go_wp2
        go_roundw
        case rel =>
          obtain ⟨h1, ⟨h2, h3⟩, h5⟩ := HX.out
          have hl := HL.out
          exact ⟨i + 1, K + P, by omega, by go_num, rfl, h2, by omega, h1, (h5.trans q2).trans q3⟩
        case measure => have := HL.out; simp [intOf]; omega
      · rw [hB] at ch hRi
        rw [if_pos rfl] at hRi
        obtain ⟨i1, i2, i3, i4⟩ := hasB_in hB
        have hxy := mul_small (a := r) (b := Y) i1 (by omega) (by omega) b4
        obtain ⟨P, hP⟩ : ∃ P, r * Y = P := ⟨_, rfl⟩
        rw [hP] at hxy hRi
        have w1 : IntKind.i64.wrap (r * Y) = P := by rw [hP, IntKind.wrap_i64]; omega
        obtain ⟨K1, hK1'⟩ : ∃ K1, K + P = K1 := ⟨_, rfl⟩
        obtain ⟨K2, hK2⟩ : ∃ K2, K1 + c = K2 := ⟨_, rfl⟩
        have w2 : IntKind.i64.wrap (K + P) = K1 := by rw [hK1', IntKind.wrap_i64]; omega
        have w3 : IntKind.i64.wrap (K1 + c) = K2 := by rw [hK2, IntKind.wrap_i64]; omega
        have e2 : K + (P + c) = K2 := by omega
        rw [e2] at hRi
        subst hRi
        have HX := Lib.hid hQ1
        clear hP hxy hK1' hK2 e2 hK0 hK1 b1 b2 b3 b4 i1 i2 i3 i4 hB hQ1
        go_wp2_with fail
        try rw [hW1]
        go_wp2_with fail
        refine (ch _).mono ?_
        rintro _ w2 ⟨rfl, q2⟩
        replace p2 := q2.keep p2
        replace r1 := q2.keep r1
        replace r2 := q2.keep r2
        go_wp2
        go_ret2
        exact ⟨rfl, (hQ.out.trans HX.out).trans q2⟩
    · have hlB : decide ((i : Int) < (d.ws.length : Int)) = false := decide_eq_false (by omega)
      have hlN : decide (i < d.ws.length) = false := decide_eq_false hl
      rw [List.drop_eq_nil_of_le (by omega)] at hRi
      have hRn : R = none := hRi
      subst hRn
      have HQ := Lib.hid (hQ.out.trans hQi)
      clear hRi hR hQi hi hK0 hK1 hl
      go_wp2
      go_ret2
      exact ⟨rfl, HQ.out⟩
end Go.Proofs.Ytnmcgleanpdlmaa

namespace Go.Proofs.Ytnmcgleanpdlmaa
open Go.RowKit
set_option linter.unusedVariables false
/-- A transfer: from, to, how much, by which tip, a new one or not. -/
structure Opx where
  s : Wp
  d : Wp
  v : Int
  t : ByteArray
  nw : Bool
def Opx.cells (x : Opx) : List Value := [.string x.s.n, .int .i64 x.s.r, .int .i64 x.s.c, .string x.d.n, .int .i64 x.d.r, .int .i64 x.d.c, .int .i64 x.v, .string x.t, .bool x.nw]
def flatOp (l : List Opx) : List Value := l.flatMap Opx.cells
theorem opCells (x : Opx) : x.cells.length = 9 := rfl
section
variable {α : Type} (f : α → List Value) (k : Nat) (hf : ∀ a, (f a).length = k)
include hf
theorem flatK_len : ∀ l : List α, (l.flatMap f).length = l.length * k
  | [] => by simp
  | a :: l => by
    rw [List.flatMap_cons, List.length_append, hf, flatK_len l, List.length_cons, Nat.add_mul]
    omega
theorem flatK_get : ∀ (l : List α) (i j : Nat) (a : α), l[i]? = some a → j < k → (l.flatMap f)[i * k + j]? = (f a)[j]?
  | [], i, j, a, h, _ => by simp at h
  | b :: l, 0, j, a, h, hj => by
    obtain rfl : b = a := by simpa using h
    rw [List.flatMap_cons, Nat.zero_mul, Nat.zero_add, List.getElem?_append_left (by rw [hf]; exact hj)]
  | b :: l, i + 1, j, a, h, hj => by
    have ih := flatK_get l i j a (by simpa using h) hj
    have e : (i + 1) * k + j = (f b).length + (i * k + j) := by rw [hf, Nat.add_mul]; omega
    rw [List.flatMap_cons, e, List.getElem?_append_right (by omega), Nat.add_sub_cancel_left]
    exact ih
end
theorem flatOp_len (l : List Opx) : (flatOp l).length = l.length * 9 := flatK_len _ 9 opCells l
theorem flatOp_get {l : List Opx} {i : Nat} {x : Opx} (h : l[i]? = some x) (j : Nat) (hj : j < 9) : (flatOp l)[i * 9 + j]? = x.cells[j]? := flatK_get _ 9 opCells l i j x h hj
end Go.Proofs.Ytnmcgleanpdlmaa

namespace Go.Proofs.Ytnmcgleanpdlmaa
open Go.RowKit
set_option linter.unusedVariables false
/-- A row of cells that comes in: nil, or cells from an address on. -/
def RowIn (w : World) (v : Value) (m : Nat) (news : List Value) : Prop :=
  (v = .slice none 0 0 ∧ m = 0 ∧ news = []) ∨ ∃ (ad : Addr) (c : Nat), v = .slice (some ad) m c ∧ ∀ j u, news[j]? = some u → w.cell? (ad.add j) = some u
theorem RowIn.keepB {w w' : World} {v : Value} {m : Nat} {news : List Value} (h : RowIn w v m news) (q : B w w') : RowIn w' v m news := by
  rcases h with h | ⟨ad, c, h1, h2⟩
  · exact .inl h
  · exact .inr ⟨ad, c, h1, fun j u hj => q.keep (h2 j u hj)⟩
theorem RowIn.form {w : World} {v : Value} {m : Nat} {news : List Value} (h : RowIn w v m news) : ∃ ao cap, v = .slice ao m cap := by
  rcases h with ⟨rfl, rfl, _⟩ | ⟨ad, c, rfl, _⟩
  · exact ⟨_, _, rfl⟩
  · exact ⟨_, _, rfl⟩
theorem ownsRow_form {w : World} {base : Nat} {e : TypeId} {size n : Nat} {v : Value} {xs : List Value} (h : w.ownsRow base e size v n xs) : ∃ o c, v = .slice o n c := by
  rcases h.2 with ⟨rfl, rfl⟩ | ⟨g, cap, cur, rfl, _⟩
  · exact ⟨_, _, rfl⟩
  · exact ⟨_, _, rfl⟩
theorem copy_run {P : Program} (w : World) (t ty e : TypeId) (i : TypeInfo) (z : Value) (size bytes : Nat) (ht : P.underlying t = some (.slice e)) (hi : P.info? e = some i) (hz : i.zero = some z)
    (hsize : i.size = size) (hby : i.bytes = bytes) (hzs : z.cells.size = size) (hsz : 0 < size) (v : Value) (m : Nat) (news : List Value) (hv : RowIn w v m news) (hl : news.length = m * size) (h1 : ∀ u ∈ news, u.oneCell' = true)
    (h63 : m ≤ maxLen) (hbytes : m * bytes ≤ 140737488355328) :
    ∃ o c w', (Builtin.append_ #[t, t] ty #[.slice none 0 0, v]).run P w = .ok (.slice o m c) w' ∧ w'.ownsRow w.heap.size e size (.slice o m c) m news ∧ B w w' := by
  rcases hv with ⟨rfl, rfl, rfl⟩ | ⟨ad, c, rfl, hc⟩
  · exact ⟨none, 0, w, run_append_owned_none w w.heap.size t ty e i size ht hi _ 0 [] (World.ownsRow_nil _ _ _ _), World.ownsRow_nil _ _ _ _, B.refl w⟩
  · obtain ⟨v', w', hr, h2, h3, _, h5⟩ := run_append_own_at (P := P) w w.heap.size t ty e i z size bytes ht hi hz hsize hby hzs hsz (.slice none 0 0) 0 [] (World.ownsRow_nil _ _ _ _) ad m c news hl hc h1 (by omega) (by simpa using hbytes) (Nat.le_refl _)
    simp only [Nat.zero_add, List.nil_append] at h2
    obtain ⟨o, c', rfl⟩ := ownsRow_form h2
    exact ⟨o, c', w', hr, h2, (B.refl w).grownBy h3 (fun _ h => by cases h)⟩
theorem wpList_copy {P : Program} (w : World) {ops : Array Oper} {rest : List Oper} {o : Oper} {a : Act} {Q : Exit → Act → World → Prop} (hgd : o.guard = none) (s x : Operand) (t : TypeId)
    (ho : o.op = .call { callee := .builtin .append, args := #[s, x], argTypes := #[t, t] })
    (e : TypeId) (i : TypeInfo) (z : Value) (size bytes : Nat) (ht : P.underlying t = some (.slice e)) (hi : P.info? e = some i) (hz : i.zero = some z)
    (hsize : i.size = size) (hby : i.bytes = bytes) (hzs : z.cells.size = size) (hsz : 0 < size) (v : Value) (hs : a.eval s = .slice none 0 0) (hx : a.eval x = v) (m : Nat) (news : List Value) (hv : RowIn w v m news) (hl : news.length = m * size) (h1 : ∀ u ∈ news, u.oneCell' = true)
    (h63 : m ≤ maxLen) (hbytes : m * bytes ≤ 140737488355328)
    (h : ∀ oN cN w', w'.ownsRow w.heap.size e size (.slice oN m cN) m news → B w w' → wpList P ops Q rest (a.put o.dst (.slice oN m cN)) w') : wpList P ops Q (o :: rest) a w :=
  wpList_plain hgd fun K hK => by
    obtain ⟨oN, cN, w', hr, h2, h3⟩ := copy_run (P := P) w t o.type e i z size bytes ht hi hz hsize hby hzs hsz v m news hv hl h1 h63 hbytes
    unfold Oper.wp execOp
    simp only [ho, resolve, invoke, builtin, Sem.run_bind, Sem.run_pure, Result.andThen_ok, List.map_toArray, List.map_cons, List.map_nil, hs, hx, hr]
    exact hK _ _ (h oN cN w' h2 h3)
end Go.Proofs.Ytnmcgleanpdlmaa

namespace Go.Proofs.Ytnmcgleanpdlmaa
open Go.RowKit
/-- What a block is: cells of a type, or a map. -/
def kindO : Obj → Option (Option TypeId)
  | .cells _ t (0, 0) => some (some t)
  | .map _ _ => some none
  | _ => none
/-- Of what was there nothing turns but blocks from the base on, of known kinds; and they stay what they are. -/
structure Tn (K : List (Option TypeId)) (base : Nat) (w w' : World) : Prop where
  os : w'.os = w.os
  tape : w'.tape = w.tape
  output : w'.output = w.output
  size : w.heap.size ≤ w'.heap.size
  block : ∀ i, i < w.heap.size → w'.heap[i]? = w.heap[i]? ∨ (base ≤ i ∧ ∃ k o, k ∈ K ∧ w.heap[i]? = some o ∧ kindO o = some k)
section
variable {K : List (Option TypeId)} {base : Nat} {a b c w w' : World}
theorem Tn.refl (K : List (Option TypeId)) (base : Nat) (w : World) : Tn K base w w := ⟨rfl, rfl, rfl, Nat.le_refl _, fun _ _ => .inl rfl⟩
theorem Tn.trans (h : Tn K base a b) (k : Tn K base b c) : Tn K base a c := by
  refine ⟨k.os.trans h.os, k.tape.trans h.tape, k.output.trans h.output, Nat.le_trans h.size k.size, fun i hi => ?_⟩
  rcases h.block i hi with h1 | h1
  · rcases k.block i (Nat.lt_of_lt_of_le hi h.size) with k1 | ⟨k1, q', p, hq', k2, k3⟩
    · exact .inl (k1.trans h1)
    · exact .inr ⟨k1, q', p, hq', h1 ▸ k2, k3⟩
  · exact .inr h1
theorem Tn.mono {K' : List (Option TypeId)} {base' : Nat} (h : Tn K base a b) (hK : ∀ k ∈ K, k ∈ K') (hb : base' ≤ base) : Tn K' base' a b :=
  ⟨h.os, h.tape, h.output, h.size, fun i hi => (h.block i hi).imp id fun ⟨h1, k, o, h2, h3⟩ => ⟨by omega, k, o, hK k h2, h3⟩⟩
theorem B.tn (h : B a b) (K : List (Option TypeId)) (base : Nat) : Tn K base a b := ⟨h.below.os, h.below.tape, h.below.output, h.below.size, fun i hi => .inl (h.below.block i hi)⟩
theorem Tn.below (h : Tn K base a b) {B0 : Nat} (hb : B0 ≤ base) (hs : B0 ≤ a.heap.size) : Below B0 a b :=
  ⟨h.os, h.tape, h.output, h.size, fun k hk => (h.block k (by omega)).elim id fun ⟨h1, _⟩ => by omega⟩
theorem Tn.toB {W : World} (h : Tn K base a b) (hB : B W a) (hb : W.heap.size ≤ base) : B W b := ⟨hB.below.trans (h.below hb hB.below.size)⟩
/-- A block of another kind stays. -/
theorem Tn.obj (h : Tn K base a b) {i : Nat} {o : Obj} (ho : a.heap[i]? = some o) (hk : ∀ k ∈ K, kindO o ≠ some k) : b.heap[i]? = some o := by
  rcases h.block i (Array.getElem?_eq_some_iff.1 ho).1 with h1 | ⟨_, k, p, h1, h2, h3⟩
  · exact h1.trans ho
  · obtain rfl : p = o := Option.some.inj (h2.symm.trans ho)
    exact absurd h3 (hk k h1)
theorem Tn.objc (h : Tn K base a b) {i : Nat} {cs : Array Value} {t : TypeId} (ho : a.heap[i]? = some (.cells cs t (0, 0))) (hK : some t ∉ K) : b.heap[i]? = some (.cells cs t (0, 0)) :=
  h.obj ho fun k hk e => by
    have : some t = k := Option.some.inj e
    exact hK (this ▸ hk)
theorem Tn.objm (h : Tn K base a b) {i : Nat} {es : Array MapEntry} {c : Nat} (ho : a.heap[i]? = some (.map es c)) (hK : none ∉ K) : b.heap[i]? = some (.map es c) :=
  h.obj ho fun k hk e => by
    have : none = k := Option.some.inj e
    exact hK (this ▸ hk)
theorem Tn.dr (h : Tn K base a b) (k : Dr b c) : Tn K base a c := by
  obtain ⟨n, rfl⟩ := k
  exact ⟨h.os, h.tape, h.output, h.size, h.block⟩
theorem Tn.drew (h : Tn K base a b) : Tn K base a b.drew := ⟨h.os, h.tape, h.output, h.size, h.block⟩
theorem Tn.drewN (h : Tn K base a b) (n : Nat) : Tn K base a (b.drewN n) := h.trans (((B.refl b).drewN n).tn K base)
theorem Tn.alloc (h : Tn K base a b) (cs : Array Value) (t : TypeId) : Tn K base a (b.alloc (.cells cs t)) := h.trans (((B.refl b).alloc cs t).tn K base)
theorem Tn.set (h : Tn K base a b) {p : Addr} {cs : Array Value} {t : TypeId} (ho : b.heap[p.block]? = some (.cells cs t (0, 0))) (hK : some t ∈ K) (hb : base ≤ p.block) (v : Value) : Tn K base a (b.setCell p v) := by
  refine h.trans ⟨rfl, rfl, rfl, by simp [World.setCell], fun i hi => ?_⟩
  by_cases e : i = p.block
  · subst e
    exact .inr ⟨hb, some t, .cells cs t (0, 0), hK, ho, rfl⟩
  · exact .inl (Below.heap_setCell _ _ _ _ e)
/-- The object of an own row. -/
theorem ownsRow_obj {base : Nat} {e : TypeId} {size n : Nat} {v : Value} {xs : List Value} (h : w.ownsRow base e size v n xs) {i : Nat} (hi : v.ownBlock = some i) : base ≤ i ∧ ∃ cs, w.heap[i]? = some (.cells cs e (0, 0)) := by
  rcases h.2 with ⟨rfl, _⟩ | ⟨g, cap, cur, rfl, hb, hg, _⟩
  · simp [Value.ownBlock] at hi
  · obtain rfl : g = i := by simpa [Value.ownBlock] using hi
    exact ⟨hb, cur, hg⟩
theorem Tn.appended (h : Tn K base a b) {base' : Nat} {e : TypeId} {size n : Nat} {v : Value} {xs : List Value} (ho : b.ownsRow base' e size v n xs)
    (g : b.grownBy c v.ownBlock) (hb : base ≤ base') (hK : some e ∈ K) : Tn K base a c := by
  refine h.trans ⟨g.os, g.tape, g.output, g.size, fun i hi => ?_⟩
  by_cases he : some i = v.ownBlock
  · obtain ⟨h1, cs, h2⟩ := ownsRow_obj ho he.symm
    exact .inr ⟨by omega, some e, _, hK, h2, rfl⟩
  · exact .inl (g.block i hi he)
/-- Rows of two types lie apart. -/
theorem rows_apart {b1 b2 : Nat} {e1 e2 : TypeId} {s1 s2 n1 n2 : Nat} {v1 v2 : Value} {x1 x2 : List Value} (h1 : w.ownsRow b1 e1 s1 v1 n1 x1) (h2 : w.ownsRow b2 e2 s2 v2 n2 x2) (he : e1 ≠ e2) : v1.ownBlock = none ∨ v1.ownBlock ≠ v2.ownBlock := by
  cases hv : v1.ownBlock with
  | none => exact .inl rfl
  | some i =>
    right
    intro e
    obtain ⟨_, cs, h3⟩ := ownsRow_obj h1 hv
    obtain ⟨_, cs', h4⟩ := ownsRow_obj h2 e.symm
    rw [h3] at h4
    cases h4
    exact he rfl
theorem obj_apart {b2 : Nat} {e2 : TypeId} {s2 n2 : Nat} {v2 : Value} {x2 : List Value} {i : Nat} {o : Obj} (ho : w.heap[i]? = some o) (h2 : w.ownsRow b2 e2 s2 v2 n2 x2) (he : kindO o ≠ some (some e2)) : v2.ownBlock ≠ some i := by
  intro e
  obtain ⟨_, cs', h4⟩ := ownsRow_obj h2 e
  rw [ho] at h4
  cases h4
  exact he rfl
theorem obj_grown {row : Option Nat} (g : w.grownBy w' row) {i : Nat} {o : Obj} (ho : w.heap[i]? = some o) (hr : row ≠ some i) : w'.heap[i]? = some o :=
  (g.block i (Array.getElem?_eq_some_iff.1 ho).1 (fun e => hr e.symm)).trans ho
end
end Go.Proofs.Ytnmcgleanpdlmaa

namespace Go.Proofs.Ytnmcgleanpdlmaa
open Go.RowKit
/-- The shape of a number. -/
def shapeOf : Nat → List Sec
  | 0 => [⟨true, 10000, 7000, 0, 7000, 0⟩]
  | 1 => [⟨true, 3000, 0, 0, 6000, 0⟩, ⟨true, 9000, 6000, 0, 6500, 0⟩]
  | 2 => [⟨false, 20000, 8000, 8000, 8400, 8400⟩]
  | 3 => [⟨false, 4000, 7000, 0, 7000, 7000⟩, ⟨false, 8000, 7000, 7000, 7000, 7000⟩]
  | 4 => [⟨true, 1800, 5000, 0, 5000, 0⟩]
  | _ => [⟨true, 2000, 1000, 0, 5200, 0⟩, ⟨true, 500, 5200, 0, 4800, 0⟩, ⟨true, 11500, 4800, 0, 7000, 0⟩]
/-- A shape is answered, in new memory. -/
def Shaped (l : List Sec) (w : World) (e : Ending) (w' : World) : Prop := ∃ v, e = .returned v ∧ IsSecs w' v l ∧ Q w w'
/-- Its numbers fit. -/
def fitsB (l : List Sec) : Bool := l.all fun s => decide (I64 s.h) && decide (I64 s.a0) && decide (I64 s.b0) && decide (I64 s.a1) && decide (I64 s.b1)
theorem fitsB_I {l : List Sec} (h : fitsB l = true) : ∀ s ∈ l, s.I := by
  intro s hs
  have := List.all_eq_true.1 h s hs
  simp only [Bool.and_eq_true, decide_eq_true_eq] at this
  exact ⟨this.1.1.1.1, this.1.1.1.2, this.1.1.2, this.1.2, this.2⟩
theorem shape_pick (w : World) (m : Nat) (h : m < 6) : ∃ V, [Value.slice (some ⟨w.heap.size, 0, none⟩) 1 1, Value.slice (some ⟨w.heap.size + 1, 0, none⟩) 2 2, Value.slice (some ⟨w.heap.size + 1 + 1, 0, none⟩) 1 1, Value.slice (some ⟨w.heap.size + 1 + 1 + 1, 0, none⟩) 2 2, Value.slice (some ⟨w.heap.size + 1 + 1 + 1 + 1, 0, none⟩) 1 1, Value.slice (some ⟨w.heap.size + 1 + 1 + 1 + 1 + 1, 0, none⟩) 3 3][m]? = some V := by
  match m, h with
  | 0, _ => exact ⟨_, rfl⟩
  | 1, _ => exact ⟨_, rfl⟩
  | 2, _ => exact ⟨_, rfl⟩
  | 3, _ => exact ⟨_, rfl⟩
  | 4, _ => exact ⟨_, rfl⟩
  | 5, _ => exact ⟨_, rfl⟩
set_option maxHeartbeats 4000000 in
theorem shape_any (k : Int) (h1 : 0 ≤ k) (h2 : k ≤ 255) (w : World) :
    Calls Try.prog 15 #[.int .u8 k] w (Shaped (shapeOf (k % 6).toNat) w) := by
  obtain ⟨V, hp⟩ := shape_pick w (k % 6).toNat (by omega)
  have HP := Lib.hid hp
  have hm : (k % 6).toNat < 6 := by omega
  have HM := Lib.hid hm
  clear hm
  go_enter Try.func15, Try.ntmps15
  go_wp2
  go_ret
  refine ⟨V, rfl, ?_, ?_⟩
  · clear hp h1 h2
    have hp := HP.out
    have hm := HM.out
    clear HP HM
    generalize (k % 6).toNat = m at *
    match m, hm with
    | 0, _ =>
      obtain rfl : Value.slice (some ⟨w.heap.size, 0, none⟩) 1 1 = V := Option.some.inj hp
      exact (isSecs_new (l := shapeOf 0) rfl (by simp) (fitsB_I (by decide)) (by decide) (by decide)).keep (((((((Q.refl _).alloc _ _).alloc _ _).alloc _ _).alloc _ _).alloc _ _).alloc _ _)
    | 1, _ =>
      obtain rfl : Value.slice (some ⟨w.heap.size + 1, 0, none⟩) 2 2 = V := Option.some.inj hp
      exact (isSecs_new (l := shapeOf 1) rfl (by simp) (fitsB_I (by decide)) (by decide) (by decide)).keep ((((((Q.refl _).alloc _ _).alloc _ _).alloc _ _).alloc _ _).alloc _ _)
    | 2, _ =>
      obtain rfl : Value.slice (some ⟨w.heap.size + 1 + 1, 0, none⟩) 1 1 = V := Option.some.inj hp
      exact (isSecs_new (l := shapeOf 2) rfl (by simp) (fitsB_I (by decide)) (by decide) (by decide)).keep (((((Q.refl _).alloc _ _).alloc _ _).alloc _ _).alloc _ _)
    | 3, _ =>
      obtain rfl : Value.slice (some ⟨w.heap.size + 1 + 1 + 1, 0, none⟩) 2 2 = V := Option.some.inj hp
      exact (isSecs_new (l := shapeOf 3) rfl (by simp) (fitsB_I (by decide)) (by decide) (by decide)).keep ((((Q.refl _).alloc _ _).alloc _ _).alloc _ _)
    | 4, _ =>
      obtain rfl : Value.slice (some ⟨w.heap.size + 1 + 1 + 1 + 1, 0, none⟩) 1 1 = V := Option.some.inj hp
      exact (isSecs_new (l := shapeOf 4) rfl (by simp) (fitsB_I (by decide)) (by decide) (by decide)).keep (((Q.refl _).alloc _ _).alloc _ _)
    | 5, _ =>
      obtain rfl : Value.slice (some ⟨w.heap.size + 1 + 1 + 1 + 1 + 1, 0, none⟩) 3 3 = V := Option.some.inj hp
      exact (isSecs_new (l := shapeOf 5) rfl (by simp) (fitsB_I (by decide)) (by decide) (by decide)).keep ((Q.refl _).alloc _ _)
  · exact ((((((((Q.refl _).alloc _ _).alloc _ _).alloc _ _).alloc _ _).alloc _ _).alloc _ _).alloc _ _)
end Go.Proofs.Ytnmcgleanpdlmaa

namespace Go.Proofs.Ytnmcgleanpdlmaa
open Go.RowKit
theorem secs_own {w : World} {base : Nat} {e : TypeId} {ao : Option Addr} {k c : Nat} {l : List Sec} (h : w.ownsRow base e 6 (.slice ao k c) k (flat l)) (hl : l.length = k) (hk : 0 < k) (hI : ∀ s ∈ l, s.I) : IsSecs w (.slice ao k c) l := by
  have hh := h
  rcases hh.2 with ⟨_, h0⟩ | ⟨g, cap, cur, hv, _, _, h1, h2, _⟩
  · omega
  · simp only [Value.slice.injEq] at hv
    obtain ⟨rfl, _, rfl⟩ := hv
    subst hl
    exact isSecs_cells hI h1 h2 (fun j u hj => by have := h.cells (g := g) rfl j u hj; rwa [add0] at this)
theorem u8_wf {k : Int} (w : (Lit.int .u8 k).wf = true) : 0 ≤ k ∧ k ≤ 255 := by
  simp [Lit.wf, IntKind.min, IntKind.max, IntKind.signed, IntKind.bits] at w
  omega
theorem shape_right : ∀ m : Nat, rightS (shapeOf m) = true
  | 0 => by decide
  | 1 => by decide
  | 2 => by decide
  | 3 => by decide
  | 4 => by decide
  | n + 5 => by rw [show shapeOf (n + 5) = shapeOf 5 from rfl]; decide
theorem IsSecs.form {w : World} {v : Value} {l : List Sec} (h : IsSecs w v l) : ∃ ao n cap, v = .slice ao n cap := by
  rcases h with ⟨rfl, rfl⟩ | ⟨a, cap, rfl, _⟩
  · exact ⟨_, _, _, rfl⟩
  · exact ⟨_, _, _, rfl⟩
theorem flat_len (l : List Sec) : (flat l).length = l.length * 6 := by
  induction l with
  | nil => rfl
  | cons s l ih =>
    show (s.cells ++ flat l).length = _
    rw [List.length_append, ih, List.length_cons]
    simp [Sec.cells]
    omega
theorem flat_one (l : List Sec) : ∀ u ∈ flat l, u.oneCell' = true := by
  intro u hu
  obtain ⟨s, _, hs⟩ := List.mem_flatMap.1 hu
  simp only [Sec.cells, List.mem_cons, List.not_mem_nil, or_false] at hs
  rcases hs with h | h | h | h | h | h <;> rw [h] <;> rfl
theorem add_parts (a : Addr) (k : Nat) : (a.add k).block = a.block ∧ (a.add k).off = a.off + k := by
  unfold Addr.add
  split
  · rename_i h; rw [h]; exact ⟨rfl, rfl⟩
  · exact ⟨rfl, rfl⟩
theorem add_more (a : Addr) (k r : Nat) (hr : 0 < r) : a.add (k + r) = ⟨(a.add k).block, (a.add k).off + r, none⟩ := by
  obtain ⟨h1, h2⟩ := add_parts a k
  rw [h1, h2]
  unfold Addr.add
  rw [if_neg (by omega), Nat.add_assoc]
theorem secs_news {w : World} {a : Addr} {l : List Sec} (h4 : ∀ i s, l[i]? = some s → s.I ∧ SecAt w (a.add (i * 6)) s) : ∀ j u, (flat l)[j]? = some u → w.cell? (a.add j) = some u := by
  intro j u hj
  have hlt : j < (flat l).length := (List.getElem?_eq_some_iff.1 hj).1
  rw [flat_len] at hlt
  obtain ⟨i, r, rfl, hr⟩ : ∃ i r, j = i * 6 + r ∧ r < 6 := ⟨j / 6, j % 6, by omega, by omega⟩
  have hi : i < l.length := by omega
  have hg := List.getElem?_eq_getElem hi
  obtain ⟨_, hs⟩ := h4 i _ hg
  rw [flat_get l i r _ hg hr] at hj
  match r, hr with
  | 0, _ => simp only [Sec.cells, List.getElem?_cons_zero, Option.some.injEq] at hj; rw [Nat.add_zero, ← hj]; exact hs.r
  | 1, _ => rw [add_more _ _ _ (by omega), hs.h]; exact hj
  | 2, _ => rw [add_more _ _ _ (by omega), hs.a0]; exact hj
  | 3, _ => rw [add_more _ _ _ (by omega), hs.b0]; exact hj
  | 4, _ => rw [add_more _ _ _ (by omega), hs.a1]; exact hj
  | 5, _ => rw [add_more _ _ _ (by omega), hs.b1]; exact hj
theorem news_plain {w : World} {cs : Array Value} {t : TypeId} {H : Nat} (hH : w.heap.size = H) : ∀ j u, cs.toList[j]? = some u → (w.alloc (.cells cs t)).cell? ((⟨H, 0, none⟩ : Addr).add j) = some u := by
  intro j u h
  rw [add0]
  subst hH
  rw [World.cell?_alloc_new]
  simpa using h
/-- Two right shapes stand in a block. -/
def TwoS (w : World) (b : Nat) : Prop := ∀ m : Nat, m < 2 → ∃ v l, w.cell? ⟨b, m, none⟩ = some v ∧ IsSecs w v l ∧ rightS l = true
theorem TwoS.keep {w w' : World} {b : Nat} (h : TwoS w b) (q : B w w') : TwoS w' b := fun m hm => by
  obtain ⟨v, l, h1, h2, h3⟩ := h m hm
  exact ⟨v, l, q.keep h1, h2.keepB q, h3⟩
theorem IsSecs.formL {w : World} {v : Value} {l : List Sec} (h : IsSecs w v l) : ∃ ao cap, v = .slice ao l.length cap := by
  rcases h with ⟨rfl, rfl⟩ | ⟨a, cap, rfl, _⟩
  · exact ⟨_, _, rfl⟩
  · exact ⟨_, _, rfl⟩
end Go.Proofs.Ytnmcgleanpdlmaa

namespace Go.Proofs.Ytnmcgleanpdlmaa
open Go.RowKit
set_option linter.unusedVariables false
def Fl.cells (f : Fl) : List Value := [.string f.n, .int .i64 f.r, .int .i64 f.c, .int .i64 f.v]
def flatF (L : List Fl) : List Value := L.flatMap Fl.cells
theorem flatF_len (L : List Fl) : (flatF L).length = L.length * 4 := by
  induction L with
  | nil => rfl
  | cons x l ih =>
    show (x.cells ++ flatF l).length = _
    rw [List.length_append, ih, List.length_cons]
    simp [Fl.cells]
    omega
theorem flatF_get : ∀ (L : List Fl) (i j : Nat) (r : Fl), L[i]? = some r → j < 4 → (flatF L)[i * 4 + j]? = r.cells[j]?
  | [], _, _, _, h, _ => by simp at h
  | r :: L, 0, j, r', h, hj => by
    simp at h
    subst h
    rw [Nat.zero_mul, Nat.zero_add]
    show (r.cells ++ flatF L)[j]? = _
    rw [List.getElem?_append_left (by simpa [Fl.cells] using hj)]
  | r :: L, i + 1, j, r', h, hj => by
    show (r.cells ++ flatF L)[(i + 1) * 4 + j]? = _
    rw [List.getElem?_append_right (by simp [Fl.cells]; omega), show (i + 1) * 4 + j - r.cells.length = i * 4 + j by simp [Fl.cells]; omega]
    exact flatF_get L i j r' (by simpa using h) hj
theorem flatF_snoc (L : List Fl) (f : Fl) : flatF (L ++ [f]) = flatF L ++ f.cells := by simp [flatF]
theorem flatR_snoc : ∀ (L : List Rec) (vs : List Value) (r : Rec) (v : Value), L.length = vs.length → flatR (L ++ [r]) (vs ++ [v]) = flatR L vs ++ r.cells v
  | [], [], r, v, _ => by simp [flatR]
  | [], _ :: _, _, _, h => by simp at h
  | _ :: _, [], _, _, h => by simp at h
  | x :: L, u :: vs, r, v, h => by
    show x.cells u ++ flatR (L ++ [r]) (vs ++ [v]) = (x.cells u ++ flatR L vs) ++ _
    rw [flatR_snoc L vs r v (by simpa using h), List.append_assoc]
def ownL (ss tt : List Value) : Bool × Nat → Option Nat
  | (true, i) => (ss[i]?).bind Value.ownBlock
  | (false, i) => (tt[i]?).bind Value.ownBlock
structure Rows (w : World) (base : Nat) (wv tv fv : Value) (d : Dk) (ss tt : List Value) : Prop where
  ws : w.ownsRow base 64 5 wv d.ws.length (flatR d.ws ss)
  ts : w.ownsRow base 59 5 tv d.ts.length (flatR d.ts tt)
  fs : w.ownsRow base 66 4 fv d.fs.length (flatF d.fs)
  sl : ss.length = d.ws.length
  tl : tt.length = d.ts.length
  sh : ∀ (i : Nat) r v, d.ws[i]? = some r → ss[i]? = some v → w.ownsRow base 102 6 v r.l.length (flat r.l)
  th : ∀ (i : Nat) r v, d.ts[i]? = some r → tt[i]? = some v → w.ownsRow base 102 6 v r.l.length (flat r.l)
  wi : ∀ r ∈ d.ws, ∀ s ∈ r.l, s.I
  ti : ∀ r ∈ d.ts, ∀ s ∈ r.l, s.I
  apart : ∀ x y k, ownL ss tt x = some k → ownL ss tt y = some k → x = y
theorem Rows.start (w : World) (base : Nat) : Rows w base (.slice none 0 0) (.slice none 0 0) (.slice none 0 0) dk0 [] [] :=
  ⟨World.ownsRow_nil _ _ _ _, World.ownsRow_nil _ _ _ _, World.ownsRow_nil _ _ _ _, rfl, rfl, fun i r v h => by simp [dk0] at h, fun i r v h => by simp [dk0] at h, fun r h => by simp [dk0] at h, fun r h => by simp [dk0] at h,
    fun x y k h => by obtain ⟨b, i⟩ := x; cases b <;> simp [ownL] at h⟩
theorem isSecs_own {w : World} {base : Nat} {e : TypeId} {v : Value} {l : List Sec} (h : w.ownsRow base e 6 v l.length (flat l)) (hI : ∀ s ∈ l, s.I) : IsSecs w v l := by
  rcases Nat.eq_zero_or_pos l.length with h0 | h0
  · obtain rfl : l = [] := List.length_eq_zero_iff.1 h0
    rcases h.2 with ⟨rfl, _⟩ | ⟨g, cap, cur, rfl, _, _, h1, h2, _⟩
    · exact .inl ⟨rfl, rfl⟩
    · exact .inr ⟨_, cap, rfl, h1, h2, fun i s hs => by simp at hs⟩
  · rcases h.2 with ⟨_, h1⟩ | ⟨g, cap, cur, rfl, h1⟩
    · omega
    · exact secs_own h rfl h0 hI
theorem isRecs_own {w : World} {base : Nat} {e : TypeId} {v : Value} {L : List Rec} {vs : List Value} (h : w.ownsRow base e 5 v L.length (flatR L vs)) (hv : L.length = vs.length) (hs : ∀ (i : Nat) (r : Rec) (v : Value), L[i]? = some r → vs[i]? = some v → IsSecs w v r.l) : IsRecs w v L := by
  have hh := h
  rcases hh.2 with ⟨rfl, h0⟩ | ⟨g, cap, cur, rfl, _, _, h1, h2, _⟩
  · exact .inl ⟨rfl, List.length_eq_zero_iff.1 h0⟩
  · exact recs_cells hv h1 h2 (fun j u hj => by have := h.cells rfl j u hj; rwa [add0] at this) hs
theorem isFls_own {w : World} {base : Nat} {e : TypeId} {v : Value} {L : List Fl} (h : w.ownsRow base e 4 v L.length (flatF L)) : IsFls w v L := by
  have hh := h
  rcases hh.2 with ⟨rfl, h0⟩ | ⟨g, cap, cur, rfl, _, _, h1, h2, _⟩
  · exact .inl ⟨rfl, List.length_eq_zero_iff.1 h0⟩
  · refine .inr ⟨_, cap, rfl, h1, h2, fun i f hf => ?_⟩
    have hc := fun j u hj => h.cells (g := g) rfl j u hj
    have k := fun j (hj : j < 4) u (hu : f.cells[j]? = some u) => hc (i * 4 + j) u ((flatF_get L i j f hf hj).trans hu)
    simp only [add0] at k
    rw [add0]
    exact ⟨k 0 (by omega) _ rfl, k 1 (by omega) _ rfl, k 2 (by omega) _ rfl, k 3 (by omega) _ rfl⟩
section
variable {w w' : World} {base : Nat} {wv tv fv : Value} {d : Dk} {ss tt : List Value}
theorem Rows.dk (h : Rows w base wv tv fv d ss tt) : IsDk w wv tv fv d :=
  ⟨isRecs_own h.ws h.sl.symm (fun i r v hr hv => isSecs_own (h.sh i r v hr hv) (h.wi r (List.mem_of_getElem? hr))),
    isRecs_own h.ts h.tl.symm (fun i r v hr hv => isSecs_own (h.th i r v hr hv) (h.ti r (List.mem_of_getElem? hr))), isFls_own h.fs⟩
/-- All stays where no block of these kinds turns. -/
theorem Rows.keep (h : Rows w base wv tv fv d ss tt) (hk : ∀ i, base ≤ i → ∀ cs e, (e = 64 ∨ e = 59 ∨ e = 66 ∨ e = 102) → w.heap[i]? = some (.cells cs e (0, 0)) → w'.heap[i]? = w.heap[i]?) : Rows w' base wv tv fv d ss tt := by
  have own : ∀ {e size n : Nat} {v : Value} {xs : List Value}, (e = 64 ∨ e = 59 ∨ e = 66 ∨ e = 102) → w.ownsRow base e size v n xs → w'.ownsRow base e size v n xs := fun {e size n v xs} he h => by
    refine ⟨h.1, ?_⟩
    rcases h.2 with hn | ⟨g, cap, cur, rfl, hb, hg, rest⟩
    · exact .inl hn
    · exact .inr ⟨g, cap, cur, rfl, hb, (hk g hb cur e he hg).trans hg, rest⟩
  exact ⟨own (by simp) h.ws, own (by simp) h.ts, own (by simp) h.fs, h.sl, h.tl, fun i r v h1 h2 => own (by simp) (h.sh i r v h1 h2), fun i r v h1 h2 => own (by simp) (h.th i r v h1 h2), h.wi, h.ti, h.apart⟩
theorem Rows.tn {K : List (Option TypeId)} {b : Nat} (h : Rows w base wv tv fv d ss tt) (t : Tn K b w w') (h1 : some 64 ∉ K) (h2 : some 59 ∉ K) (h3 : some 66 ∉ K) (h4 : some 102 ∉ K) : Rows w' base wv tv fv d ss tt :=
  h.keep fun i _ cs e he ho => by rcases he with rfl | rfl | rfl | rfl <;> exact (t.objc ho (by assumption)).trans ho.symm
theorem Rows.b (h : Rows w base wv tv fv d ss tt) (q : B w w') : Rows w' base wv tv fv d ss tt :=
  h.keep fun i _ cs e he ho => q.below.block i (obj_lt ho)
theorem nodup_nil {x : Bool × Nat} {k : Nat} : ownL (ss ++ [.slice none 0 0]) tt x = some k → ownL ss tt x = some k := by
  obtain ⟨b, i⟩ := x
  cases b
  · exact id
  · simp only [ownL]
    intro h
    rcases Nat.lt_trichotomy i ss.length with hi | hi | hi
    · rwa [List.getElem?_append_left hi] at h
    · subst hi
      rw [List.getElem?_append_right (Nat.le_refl _)] at h
      simp [Value.ownBlock] at h
    · rw [List.getElem?_eq_none (by simp; omega)] at h
      cases h
theorem nodup_nilT {x : Bool × Nat} {k : Nat} : ownL ss (tt ++ [.slice none 0 0]) x = some k → ownL ss tt x = some k := by
  obtain ⟨b, i⟩ := x
  cases b
  · simp only [ownL]
    intro h
    rcases Nat.lt_trichotomy i tt.length with hi | hi | hi
    · rwa [List.getElem?_append_left hi] at h
    · subst hi
      rw [List.getElem?_append_right (Nat.le_refl _)] at h
      simp [Value.ownBlock] at h
    · rw [List.getElem?_eq_none (by simp; omega)] at h
      cases h
  · exact id
theorem Rows.addW (h : Rows w base wv tv fv d ss tt) {wv' : Value} {r : Wr} (hr : r.l = []) (hg : w.grownBy w' wv.ownBlock) (ho : w'.ownsRow base 64 5 wv' (d.ws.length + 1) (flatR d.ws ss ++ r.cells (.slice none 0 0))) :
    Rows w' base wv' tv fv { d with ws := d.ws ++ [r] } (ss ++ [.slice none 0 0]) tt := by
  refine ⟨?_, h.ts.kept hg (rows_apart h.ts h.ws (by decide)), h.fs.kept hg (rows_apart h.fs h.ws (by decide)), by simp [h.sl], h.tl, fun i x v hx hv => ?_, fun i x v hx hv => (h.th i x v hx hv).kept hg (rows_apart (h.th i x v hx hv) h.ws (by decide)), fun x hx => ?_, h.ti, fun x y k hx hy => h.apart x y k (nodup_nil hx) (nodup_nil hy)⟩
  · rw [flatR_snoc _ _ _ _ h.sl.symm]
    simpa using ho
  · simp only at hx
    rcases Nat.lt_trichotomy i d.ws.length with hi | hi | hi
    · rw [List.getElem?_append_left hi] at hx
      rw [List.getElem?_append_left (by rw [h.sl]; exact hi)] at hv
      exact (h.sh i x v hx hv).kept hg (rows_apart (h.sh i x v hx hv) h.ws (by decide))
    · subst hi
      rw [List.getElem?_append_right (Nat.le_refl _)] at hx
      rw [List.getElem?_append_right (by rw [h.sl]; exact Nat.le_refl _), h.sl] at hv
      simp at hx hv
      subst hx hv
      rw [hr]
      exact World.ownsRow_nil _ _ _ _
    · rw [List.getElem?_eq_none (by simp; omega)] at hx
      cases hx
  · rcases List.mem_append.1 hx with hx | hx
    · exact h.wi x hx
    · obtain rfl := List.mem_singleton.1 hx
      rw [hr]
      simp
theorem Rows.addT (h : Rows w base wv tv fv d ss tt) {tv' : Value} {r : Wr} (hr : r.l = []) (hg : w.grownBy w' tv.ownBlock) (ho : w'.ownsRow base 59 5 tv' (d.ts.length + 1) (flatR d.ts tt ++ r.cells (.slice none 0 0))) :
    Rows w' base wv tv' fv { d with ts := d.ts ++ [r] } ss (tt ++ [.slice none 0 0]) := by
  refine ⟨h.ws.kept hg (rows_apart h.ws h.ts (by decide)), ?_, h.fs.kept hg (rows_apart h.fs h.ts (by decide)), h.sl, by simp [h.tl], fun i x v hx hv => (h.sh i x v hx hv).kept hg (rows_apart (h.sh i x v hx hv) h.ts (by decide)), fun i x v hx hv => ?_, h.wi, fun x hx => ?_, fun x y k hx hy => h.apart x y k (nodup_nilT hx) (nodup_nilT hy)⟩
  · rw [flatR_snoc _ _ _ _ h.tl.symm]
    simpa using ho
  · simp only at hx
    rcases Nat.lt_trichotomy i d.ts.length with hi | hi | hi
    · rw [List.getElem?_append_left hi] at hx
      rw [List.getElem?_append_left (by rw [h.tl]; exact hi)] at hv
      exact (h.th i x v hx hv).kept hg (rows_apart (h.th i x v hx hv) h.ts (by decide))
    · subst hi
      rw [List.getElem?_append_right (Nat.le_refl _)] at hx
      rw [List.getElem?_append_right (by rw [h.tl]; exact Nat.le_refl _), h.tl] at hv
      simp at hx hv
      subst hx hv
      rw [hr]
      exact World.ownsRow_nil _ _ _ _
    · rw [List.getElem?_eq_none (by simp; omega)] at hx
      cases hx
  · rcases List.mem_append.1 hx with hx | hx
    · exact h.ti x hx
    · obtain rfl := List.mem_singleton.1 hx
      rw [hr]
      simp
theorem Rows.addF (h : Rows w base wv tv fv d ss tt) {fv' : Value} {f : Fl} (hg : w.grownBy w' fv.ownBlock) (ho : w'.ownsRow base 66 4 fv' (d.fs.length + 1) (flatF d.fs ++ f.cells)) :
    Rows w' base wv tv fv' { d with fs := d.fs ++ [f] } ss tt := by
  refine ⟨h.ws.kept hg (rows_apart h.ws h.fs (by decide)), h.ts.kept hg (rows_apart h.ts h.fs (by decide)), ?_, h.sl, h.tl, fun i x v hx hv => (h.sh i x v hx hv).kept hg (rows_apart (h.sh i x v hx hv) h.fs (by decide)), fun i x v hx hv => (h.th i x v hx hv).kept hg (rows_apart (h.th i x v hx hv) h.fs (by decide)), h.wi, h.ti, h.apart⟩
  rw [flatF_snoc]
  simpa using ho
theorem Rows.old (h : Rows w base wv tv fv d ss tt) {x : Bool × Nat} {k : Nat} (hx : ownL ss tt x = some k) : k < w.heap.size := by
  obtain ⟨b, i⟩ := x
  cases b
  · simp only [ownL] at hx
    cases hv : tt[i]? with
    | none => rw [hv] at hx; cases hx
    | some v =>
      rw [hv] at hx
      have hi : i < d.ts.length := by rw [← h.tl]; exact (List.getElem?_eq_some_iff.1 hv).1
      exact ((h.th i _ v (List.getElem?_eq_getElem hi) hv).lt k hx).2
  · simp only [ownL] at hx
    cases hv : ss[i]? with
    | none => rw [hv] at hx; cases hx
    | some v =>
      rw [hv] at hx
      have hi : i < d.ws.length := by rw [← h.sl]; exact (List.getElem?_eq_some_iff.1 hv).1
      exact ((h.sh i _ v (List.getElem?_eq_getElem hi) hv).lt k hx).2
end
end Go.Proofs.Ytnmcgleanpdlmaa
