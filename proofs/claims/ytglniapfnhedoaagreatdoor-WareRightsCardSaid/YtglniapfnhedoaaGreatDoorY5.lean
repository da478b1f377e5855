/-
 Contracts and what they rest on.
-/
import Derived.Test.YtglniapfnhedoaaGreatDoorChecked
import Derived.Lib.Hide
import Derived.KernelRfl
import Derived.Test.YtglniapfnhedoaaGreatDoorY4
namespace Go.Proofs.YtglniapfnhedoaaGreatDoor
open Go.RowKit
set_option linter.unusedVariables false
def atW : List Wr → Int → Option (ByteArray × Int × Int)
 | [], _ => none
 | w :: ws, k => if k < 0 then none else if k < w.x * w.y then some (w.n, k / w.y, k % w.y) else atW ws (k - w.x * w.y)
def wellV : Option (ByteArray × Int × Int) → Value
 | none => .agg #[.string ⟨#[]⟩, .int .i64 0, .int .i64 0]
 | some (n, r, c) => .agg #[.string n, .int .i64 r, .int .i64 c]
theorem at_cons {ws : List Wr} {i : Nat} (hi : i < ws.length) (k : Int) : atW (ws.drop i) k = if k < 0 then none else if k < (ws[i]).x * (ws[i]).y then some ((ws[i]).n, k / (ws[i]).y, k % (ws[i]).y) else atW (ws.drop (i + 1)) (k - (ws[i]).x * (ws[i]).y) := by
 rw [List.drop_eq_getElem_cons hi]
 rfl
theorem at_neg {k : Int} (hk : k < 0) : ∀ ws : List Wr, atW ws k = none
 | [] => rfl
 | w :: ws => by rw [atW, if_pos hk]
set_option maxRecDepth 100000 in
set_option maxHeartbeats 2000000 in
theorem r8at_any (wv tv fv : Value) (d : Dk) (k : Int) (hk : I64 k) (w : World) (h : IsDk w wv tv fv d) (hb : ∀ x ∈ d.ws, wareB x) : Calls Tryz.prog 19 #[.agg #[wv, tv, fv], .int .i64 k] w fun e w' => e = .returned (.tuple #[wellV (atW d.ws k), .bool (atW d.ws k).isSome]) ∧ B w w' := by
 obtain ⟨ao, ac, bo, bc, co, cc, rfl, rfl, rfl⟩ := h.forms
 have hQ := ((B.refl w).alloc #[.slice ao d.ws.length ac, .slice bo d.ts.length bc, .slice co d.fs.length cc] 26).alloc #[.string ⟨#[]⟩, .int .i64 0, .int .i64 0] 39
 have hR := h.ws.keepB hQ
 obtain ⟨W, hW⟩ : ∃ W, (w.alloc (.cells #[.slice ao d.ws.length ac, .slice bo d.ts.length bc, .slice co d.fs.length cc] 26)).alloc (.cells #[.string ⟨#[]⟩, .int .i64 0, .int .i64 0] 39) = W := ⟨_, rfl⟩
 have e1 : (w.alloc (.cells #[.slice ao d.ws.length ac, .slice bo d.ts.length bc, .slice co d.fs.length cc] 26)).heap.size = w.heap.size + 1 := by simp
 have oD := ((B.refl _).alloc #[.string ⟨#[]⟩, .int .i64 0, .int .i64 0] 39).obj (obj_new w (.cells #[.slice ao d.ws.length ac, .slice bo d.ts.length bc, .slice co d.fs.length cc] 26))
 have oE := obj_new (w.alloc (.cells #[.slice ao d.ws.length ac, .slice bo d.ts.length bc, .slice co d.fs.length cc] 26)) (.cells #[.string ⟨#[]⟩, .int .i64 0, .int .i64 0] 39)
 rw [e1] at oE
 rw [hW] at hR hQ oD oE
 clear h e1
 obtain ⟨RR, hRR⟩ : ∃ RR, atW d.ws k = RR := ⟨_, rfl⟩
 rw [hRR]
 go_enter Tryz.func19, Tryz.ntmps19
 go_wp2_with fail
 try rw [hW]
 clear hW
 obtain ⟨H, hH⟩ : ∃ H, w.heap.size = H := ⟨_, rfl⟩
 obtain ⟨E, hE⟩ : ∃ E, w.heap.size + 1 = E := ⟨_, rfl⟩
 have hEg : w.heap.size ≤ E := by omega
 have hne : ¬ E = H := by omega
 have hne2 : ¬ H = E := by omega
 rw [hE] at oE ⊢
 rw [hH] at oD ⊢
 clear hE hH
 go_loopw [1, 6] (fun kv iv wr => ∃ (i : Nat) (K : Int), i ≤ d.ws.length ∧ iv = .int .i64 i ∧ kv = .int .i64 K ∧ I64 K ∧ RR = atW (d.ws.drop i) K ∧ B W wr) (fun _ iv _ => d.ws.length + 1 - (intOf iv).toNat)
 case atStart => exact ⟨0, k, Nat.zero_le _, rfl, rfl, hk, hRR.symm, B.refl _⟩
 case round =>
  obtain ⟨i, K, hi, rfl, rfl, hK, hRi, hBi⟩ := hrel
  obtain ⟨wo, rfl⟩ : ∃ wo : World, wo = wr := ⟨_, rfl⟩
  clear hRR hk
  have oD1 := hBi.obj oD
  have oE1 := hBi.obj oE
  have k0 : wo.cell? ⟨H, 0, none⟩ = some (.slice ao d.ws.length ac) := obj_cell oD1 0
  have B1 := hQ.trans hBi
  by_cases hgo : i < d.ws.length ∧ 0 ≤ K
  ·obtain ⟨hl, hK0⟩ := hgo
   have hlB : decide ((i : Int) < (d.ws.length : Int)) = true := decide_eq_true (by omega)
   have hlI : (i : Int) < (d.ws.length : Int) := by omega
   have hKB : decide ((0 : Int) ≤ K) = true := decide_eq_true hK0
   have hi0 : (0 : Int) ≤ (i : Int) := by omega
   have wk1 : IntKind.i64.wrap ((i : Int) + 1) = (i : Int) + 1 := by rw [IntKind.wrap_i64]; have := hR.len; omega
   obtain ⟨a, cap, e1, _, _, hr⟩ := (hR.keepB hBi).at_ hl
   obtain ⟨rfl, _, rfl⟩ : ao = some a ∧ True ∧ ac = cap := by simpa using e1
   have hbi := hb _ (List.getElem_mem hl)
   rw [at_cons hl, if_neg (by omega)] at hRi
   obtain ⟨F, hF⟩ : ∃ F, d.ws[i] = F := ⟨_, rfl⟩
   rw [hF] at hr hRi hbi
   obtain ⟨b1, b2, b3, b4⟩ := hbi
   obtain ⟨g1, g2, g3, g4, sv, g5, g6⟩ := hr
   obtain ⟨so, sc, rfl⟩ := secs_form g6
   obtain ⟨sn, hsn⟩ : ∃ sn, F.l.length = sn := ⟨_, rfl⟩
   rw [hsn] at g5 g6
   clear hsn
   obtain ⟨N, X, Y, Z, SL⟩ := F
   simp only at g1 g2 g3 g4 g5 hRi b1 b2 b3 b4
   have hxy := mul_small (a := X) (b := Y) (by omega) b2 (by omega) b4
   obtain ⟨P, hP⟩ : ∃ P, X * Y = P := ⟨_, rfl⟩
   rw [hP] at hxy hRi
   have w1 : IntKind.i64.wrap (X * Y) = P := by rw [hP, IntKind.wrap_i64]; omega
   have q1 := (B.refl wo).alloc #[.string N, .int .i64 X, .int .i64 Y, .int .i64 Z, .slice so sn sc] 33
   have oW := obj_new wo (.cells #[.string N, .int .i64 X, .int .i64 Y, .int .i64 Z, .slice so sn sc] 33)
   obtain ⟨W1, hW1⟩ : ∃ W1, wo.alloc (.cells #[.string N, .int .i64 X, .int .i64 Y, .int .i64 Z, .slice so sn sc] 33) = W1 := ⟨_, rfl⟩
   rw [hW1] at oW q1
   have oE2 := q1.obj oE1
   have hElt := obj_lt oE1
   have p0 : W1.cell? ⟨wo.heap.size, 0, none⟩ = some (.string N) := obj_cell oW 0
   have p1 : W1.cell? ⟨wo.heap.size, 1, none⟩ = some (.int .i64 X) := obj_cell oW 1
   have p2 : W1.cell? ⟨wo.heap.size, 2, none⟩ = some (.int .i64 Y) := obj_cell oW 2
   have HL := Lib.hid hl
   clear hF e1 g6 hb hi hl hR oD1 oE1
   by_cases hlt : K < P
   ·have hltB : decide (K < P) = true := decide_eq_true hlt
    rw [if_pos hlt] at hRi
    have y0 : ¬ Y = 0 := by omega
    have dv : IntKind.i64.wrap (K.tdiv Y) = K / Y := by
     rw [Int.tdiv_eq_ediv_of_nonneg hK0, IntKind.wrap_i64]
     have := Int.ediv_le_self Y hK0
     have := Int.ediv_nonneg hK0 (by omega : 0 ≤ Y)
     unfold I64 at hK
     omega
    have rv : IntKind.i64.wrap (K.tmod Y) = K % Y := by
     rw [Int.tmod_eq_emod_of_nonneg hK0, IntKind.wrap_i64]
     have := Int.emod_lt_of_pos K (by omega : 0 < Y)
     have := Int.emod_nonneg K (by omega : Y ≠ 0)
     omega
    have dv' : K.tdiv Y = K / Y := Int.tdiv_eq_ediv_of_nonneg hK0
    have rv' : K.tmod Y = K % Y := Int.tmod_eq_emod_of_nonneg hK0
    have r0 : W1.cell? ⟨E, 0, none⟩ = some (.string ⟨#[]⟩) := obj_cell oE2 0
    have r1 : W1.cell? ⟨E, 1, none⟩ = some (.int .i64 0) := obj_cell oE2 1
    have r2 : W1.cell? ⟨E, 2, none⟩ = some (.int .i64 0) := obj_cell oE2 2
    have f0 := obj_free oE2 0
    have f1 := obj_free oE2 1
    have f2 := obj_free oE2 2
    have hEw : ¬ E = wo.heap.size := by omega
    have hwE : ¬ wo.heap.size = E := by omega
    have oF := obj_three oE2 (.string N) (.int .i64 (K / Y)) (.int .i64 (K % Y))
    have hqF := b_three (B1.trans q1) hEg (.string N) (.int .i64 (K / Y)) (.int .i64 (K % Y))
    have HX := Lib.hid (And.intro hRi (And.intro oF hqF))
    clear hRi oF hqF hP hxy hlt oW oE2 q1 B1 hQ hBi oD oE
    rw [dv'] at dv
    rw [rv'] at rv
    generalize K / Y = QQ at *
    generalize K % Y = MM at *
    go_wp2_with fail
    try rw [hW1]
    generalize wo.heap.size = G at *
    have p0' : W1.drew.cell? ⟨G, 0, none⟩ = some (.string N) := p0
    have p2' : W1.drew.cell? ⟨G, 2, none⟩ = some (.int .i64 Y) := p2
    have r0' : W1.drew.cell? ⟨E, 0, none⟩ = some (.string ⟨#[]⟩) := r0
    have r1' : W1.drew.cell? ⟨E, 1, none⟩ = some (.int .i64 0) := r1
    have r2' : W1.drew.cell? ⟨E, 2, none⟩ = some (.int .i64 0) := r2
    have f0' : W1.drew.frozen? ⟨E, 0, none⟩ = false := f0
    have f1' : W1.drew.frozen? ⟨E, 1, none⟩ = false := f1
    have f2' : W1.drew.frozen? ⟨E, 2, none⟩ = false := f2
    go_region
    all_goals
     go_wp2
     obtain ⟨hRi, oF, hqF⟩ := HX.out
     have z0 := obj_cell oF 0
     have z1 := obj_cell oF 1
     have z2 := obj_cell oF 2
     exact bodyPost_ret (v := .tuple #[.agg #[.string N, .int .i64 QQ, .int .i64 MM], .bool true]) (by simp [results, Tryz.results19, go_sem, z0, z1, z2]) rfl ⟨by rw [hRi]; rfl, hqF.drew⟩
   ·have hltB : decide (K < P) = false := decide_eq_false hlt
    rw [if_neg hlt] at hRi
    have w2 : IntKind.i64.wrap (K - P) = K - P := by rw [IntKind.wrap_i64]; unfold I64 at hK; omega
    have hK2 : I64 (K - P) := by unfold I64 at hK ⊢; omega
    have HX := Lib.hid (And.intro hRi (And.intro hK2 (hBi.trans q1)))
    clear hRi hK2 hP hxy hlt oW oE2 q1 B1 hQ hBi oD oE hK
    go_wp2
    go_roundw
    case rel =>
     obtain ⟨h1, h2, h3⟩ := HX.out
     have hl := HL.out
     exact ⟨i + 1, K - P, by omega, by go_num, rfl, h2, h1, h3⟩
    case measure => have := HL.out; simp [intOf]; omega
  ·have hnone : RR = none := by
    rw [hRi]
    by_cases hl : i < d.ws.length
    ·exact at_neg (by omega) _
    ·rw [List.drop_eq_nil_of_le (by omega)]; rfl
   have r0 : wo.cell? ⟨E, 0, none⟩ = some (.string ⟨#[]⟩) := obj_cell oE1 0
   have r1 : wo.cell? ⟨E, 1, none⟩ = some (.int .i64 0) := obj_cell oE1 1
   have r2 : wo.cell? ⟨E, 2, none⟩ = some (.int .i64 0) := obj_cell oE1 2
   have f0 := obj_free oE1 0
   have f1 := obj_free oE1 1
   have f2 := obj_free oE1 2
   have oF := obj_three oE1 (.string ⟨#[]⟩) (.int .i64 0) (.int .i64 0)
   have hqF := b_three B1 hEg (.string ⟨#[]⟩) (.int .i64 0) (.int .i64 0)
   have HX := Lib.hid (And.intro hnone (And.intro oF hqF))
   have hor : (decide ((i : Int) < (d.ws.length : Int)) = false ∧ decide (i < d.ws.length) = false) ∨ (decide ((i : Int) < (d.ws.length : Int)) = true ∧ decide (i < d.ws.length) = true ∧ decide ((0 : Int) ≤ K) = false) := by
    by_cases hl : i < d.ws.length
    ·exact .inr ⟨decide_eq_true (by omega), decide_eq_true hl, decide_eq_false (by omega)⟩
    ·exact .inl ⟨decide_eq_false (by omega), decide_eq_false hl⟩
   clear hRi hnone oF hqF hgo hR hb hK hi oD oE oD1 oE1 B1 hQ hBi
   rcases hor with ⟨hA, hB⟩ | ⟨hA, hA', hB⟩
   all_goals
    go_wp2
    obtain ⟨hnone, oF, hqF⟩ := HX.out
    have z0 := obj_cell oF 0
    have z1 := obj_cell oF 1
    have z2 := obj_cell oF 2
    exact bodyPost_ret (v := .tuple #[.agg #[.string ⟨#[]⟩, .int .i64 0, .int .i64 0], .bool false]) (by simp [results, Tryz.results19, go_sem, z0, z1, z2]) rfl ⟨by rw [hnone]; rfl, hqF⟩
end Go.Proofs.YtglniapfnhedoaaGreatDoor
namespace Go.Proofs.YtglniapfnhedoaaGreatDoor
open Go.RowKit
def IsU8s (w : World) (v : Value) (bs : List UInt8) : Prop := ∃ ao cap b o, v = .slice ao bs.length cap ∧ IsB w ao cap b o bs
theorem spot_int {w : World} {p : Addr} {k : IntKind} {x : Int} (h : w.cell? p = some (.int k x)) : p.spot = none := by
 cases hsp : p.spot with
 | none => rfl
 | some x =>
  unfold World.cell? at h
  split at h
  ·simp [hsp] at h
  ·cases h
theorem IsU8s.keep {w w' : World} {v : Value} {bs : List UInt8} (h : IsU8s w v bs) (q : B w w') : IsU8s w' v bs := by
 obtain ⟨ao, cap, b, o, h1, h2⟩ := h
 exact ⟨ao, cap, b, o, h1, h2.keep q⟩
end Go.Proofs.YtglniapfnhedoaaGreatDoor
namespace Go.Proofs.YtglniapfnhedoaaGreatDoor
open Go.RowKit
def IsU32s (w : World) (v : Value) (l : List Nat) : Prop := ∃ ao cap, v = .slice ao l.length cap ∧ l.length ≤ 9223372036854775807 ∧ ∀ (i x : Nat), l[i]? = some x → x < 4294967296 ∧ ∃ b o, ao = some ⟨b, o, none⟩ ∧ w.cell? ⟨b, o + i, none⟩ = some (.int .u32 (x : Int))
theorem isU32s_nil (w : World) : IsU32s w (.slice none 0 0) [] := ⟨none, 0, rfl, by simp, fun i x h => by simp at h⟩
theorem isU32s_of {w : World} {a : Addr} {len cap : Nat} {zs : List Int} (h1 : len ≤ cap) (h2 : cap ≤ maxLen) (hz : zs.length = cap) (hc : ∀ i, i < zs.length → w.cell? (a.add i) = some (.int .u32 (zs.getD i 0))) (hw : ∀ n ∈ zs, (Lit.int .u32 n).wf = true) :
  IsU32s w (.slice (some a) len cap) ((zs.take len).map fun z => z.toNat) := by
 have hl : ((zs.take len).map fun z => z.toNat).length = len := by rw [List.length_map, List.length_take]; omega
 refine ⟨some a, cap, by rw [hl], by rw [hl]; unfold maxLen at h2; omega, fun i x hi => ?_⟩
 have hlt : i < len := by have := (List.getElem?_eq_some_iff.1 hi).1; omega
 have hlt' : i < zs.length := by omega
 have e : zs.getD i 0 = zs[i] := by rw [List.getD_eq_getElem?_getD, List.getElem?_eq_getElem hlt']; rfl
 have hm := hw _ (List.getElem_mem hlt')
 simp [Lit.wf, IntKind.min, IntKind.max, IntKind.signed, IntKind.bits] at hm
 have hcc := hc i hlt'
 rw [e] at hcc
 rw [List.getElem?_map, List.getElem?_take, if_pos hlt, List.getElem?_eq_getElem hlt'] at hi
 obtain rfl : (zs[i]).toNat = x := by simpa using hi
 have h0 := hc 0 (by omega)
 have hsp : a.spot = none := spot_int (k := .u32) (x := zs.getD 0 0) (by have e0 : a.add 0 = a := by unfold Addr.add; simp
                                                                         rw [← e0]; exact h0)
 have ea : a.add i = ⟨a.block, a.off + i, none⟩ := by
  unfold Addr.add
  split
  ·rename_i h; subst h; rw [Nat.add_zero, ← hsp]
  ·rfl
 rw [ea] at hcc
 refine ⟨by omega, a.block, a.off, by rw [← hsp], ?_⟩
 rw [hcc]
 congr 2
 omega
theorem IsU32s.keep {w w' : World} {v : Value} {l : List Nat} (h : IsU32s w v l) (q : B w w') : IsU32s w' v l := by
 obtain ⟨ao, cap, h1, h2, h3⟩ := h
 exact ⟨ao, cap, h1, h2, fun i x hi => let ⟨k1, b, o, k2, k3⟩ := h3 i x hi; ⟨k1, b, o, k2, q.keep k3⟩⟩
theorem IsU32s.form {w : World} {v : Value} {l : List Nat} (h : IsU32s w v l) : ∃ ao cap, v = .slice ao l.length cap := let ⟨ao, cap, h1, _⟩ := h; ⟨ao, cap, h1⟩
end Go.Proofs.YtglniapfnhedoaaGreatDoor
