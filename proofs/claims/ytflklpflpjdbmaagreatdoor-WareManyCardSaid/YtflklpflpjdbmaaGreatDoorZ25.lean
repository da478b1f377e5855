/-
  Contracts of the document's lines of wares, of tips.
-/
import Derived.BigRegion
import Derived.Test.YtflklpflpjdbmaaGreatDoorZ1
import Derived.Test.YtflklpflpjdbmaaGreatDoorZ2
import Derived.Test.YtflklpflpjdbmaaGreatDoorZ3
import Derived.Test.YtflklpflpjdbmaaGreatDoorZ4
import Derived.Test.YtflklpflpjdbmaaGreatDoorZ17
import Derived.Test.YtflklpflpjdbmaaGreatDoorZ24
namespace Go.Proofs.YtflklpflpjdbmaaGreatDoor
open Go.RowKit
theorem obj_five {w : World} {b : Nat} {a0 a1 a2 a3 a4 : Value} {t : TypeId} (h : w.heap[b]? = some (.cells #[a0, a1, a2, a3, a4] t (0, 0))) (x0 x1 x2 x3 x4 : Value) :
    (((((w.setCell ⟨b, 0, none⟩ x0).setCell ⟨b, 1, none⟩ x1).setCell ⟨b, 2, none⟩ x2).setCell ⟨b, 3, none⟩ x3).setCell ⟨b, 4, none⟩ x4).heap[b]? = some (.cells #[x0, x1, x2, x3, x4] t (0, 0)) := by
  have := obj_set (obj_set (obj_set (obj_set (obj_set h 0 x0) 1 x1) 2 x2) 3 x3) 4 x4
  simpa using this
theorem b_five {u w : World} (h : B u w) {b : Nat} (hb : u.heap.size ≤ b) (x0 x1 x2 x3 x4 : Value) :
    B u (((((w.setCell ⟨b, 0, none⟩ x0).setCell ⟨b, 1, none⟩ x1).setCell ⟨b, 2, none⟩ x2).setCell ⟨b, 3, none⟩ x3).setCell ⟨b, 4, none⟩ x4) :=
  B.setCell (p := ⟨b, 4, none⟩) (B.setCell (p := ⟨b, 3, none⟩) (B.setCell (p := ⟨b, 2, none⟩) (B.setCell (p := ⟨b, 1, none⟩) (B.setCell (p := ⟨b, 0, none⟩) h hb _) hb _) hb _) hb _) hb _
def okN3 (m lo : Nat) (x : Wd) (v : Int) : Prop := numOk (strB x.2) = true ∧ v = numV (strB x.2) ∧ numV (strB x.2) ≤ m ∧ lo ≤ numV (strB x.2)
theorem three_one {m0 m1 m2 : Nat} {a b c : Wd} (h : ¬ (numOk (strB a.2) = true ∧ numV (strB a.2) ≤ m0 ∧ 1 ≤ numV (strB a.2))) : threeW m0 m1 m2 a b c = .error (a.1, 20) := by
  unfold threeW
  rw [if_pos]
  cases hh : numOk (strB a.2)
  · exact .inl rfl
  · rw [hh] at h
    by_cases c1 : m0 < numV (strB a.2)
    · exact .inr (.inl c1)
    · exact .inr (.inr (by have : ¬ (numV (strB a.2) ≤ m0 ∧ 1 ≤ numV (strB a.2)) := fun x => h ⟨rfl, x⟩; omega))
theorem three_two {m0 m1 m2 : Nat} {a b c : Wd} {x : Int} (ha : okN3 m0 1 a x) (h : ¬ (numOk (strB b.2) = true ∧ numV (strB b.2) ≤ m1 ∧ 1 ≤ numV (strB b.2))) : threeW m0 m1 m2 a b c = .error (b.1, 20) := by
  obtain ⟨h1, _, h3, h4⟩ := ha
  unfold threeW
  rw [if_neg (by rw [h1]; simp; omega), if_pos]
  cases hh : numOk (strB b.2)
  · exact .inl rfl
  · rw [hh] at h
    by_cases c1 : m1 < numV (strB b.2)
    · exact .inr (.inl c1)
    · exact .inr (.inr (by have : ¬ (numV (strB b.2) ≤ m1 ∧ 1 ≤ numV (strB b.2)) := fun x => h ⟨rfl, x⟩; omega))
theorem three_three {m0 m1 m2 : Nat} {a b c : Wd} {x y : Int} (ha : okN3 m0 1 a x) (hb : okN3 m1 1 b y) (h : ¬ (numOk (strB c.2) = true ∧ numV (strB c.2) ≤ m2)) : threeW m0 m1 m2 a b c = .error (c.1, 20) := by
  obtain ⟨h1, _, h3, h4⟩ := ha
  obtain ⟨g1, _, g3, g4⟩ := hb
  unfold threeW
  rw [if_neg (by rw [h1]; simp; omega), if_neg (by rw [g1]; simp; omega), if_pos]
  cases hh : numOk (strB c.2)
  · exact .inl rfl
  · rw [hh] at h
    exact .inr (by have : ¬ (numV (strB c.2) ≤ m2) := fun x => h ⟨rfl, x⟩; omega)
theorem three_all {m0 m1 m2 : Nat} {a b c : Wd} {x y z : Int} (ha : okN3 m0 1 a x) (hb : okN3 m1 1 b y) (hc : okN3 m2 0 c z) : threeW m0 m1 m2 a b c = .ok (numV (strB a.2), numV (strB b.2), numV (strB c.2)) := by
  obtain ⟨h1, _, h3, h4⟩ := ha
  obtain ⟨g1, _, g3, g4⟩ := hb
  obtain ⟨k1, _, k3, _⟩ := hc
  unfold threeW
  rw [if_neg (by rw [h1]; simp; omega), if_neg (by rw [g1]; simp; omega), if_neg (by rw [k1]; simp; omega)]
def Wr.agg (r : Wr) : Value := .agg #[.string r.n, .int .i64 r.x, .int .i64 r.y, .int .i64 r.z, .slice none 0 0]
def wr0 : Wr := ⟨⟨#[]⟩, 0, 0, 0, []⟩
/-- What a ware's, a tip's line tells. -/
def RecRes (had : List Wr) (most m0 m1 m2 : Nat) (l : List Wd) (w : World) (e : Ending) (w' : World) : Prop :=
  (∃ r, recW had most m0 m1 m2 l = .ok r ∧ r.l = [] ∧ e = .returned (.tuple #[Wr.agg r, .int .i64 0, .int .i64 0]) ∧ B w w') ∨
  (∃ p n : Nat, recW had most m0 m1 m2 l = .error (p, n) ∧ e = .returned (.tuple #[Wr.agg wr0, .int .i64 (p : Int), .int .i64 (n : Int)]) ∧ B w w')
set_option maxHeartbeats 8000000 in
set_option maxRecDepth 100000 in
theorem r8wareLine_any (wv tv fv v : Value) (d : Dk) (k : Wd) (l : List Wd) (w : World) (hd : IsDk w wv tv fv d) (h : IsWords w v (k :: l)) : Calls Tryz.prog 61 #[.agg #[wv, tv, fv], v] w (RecRes d.ws 8 8 12 1000000 (k :: l) w) := by
  obtain ⟨ao, ac, bo, bc, co, cc, rfl, rfl, rfl⟩ := hd.forms
  obtain ⟨g, lc, rfl, hle, hm, hlt, z⟩ := h.full (by simp)
  obtain ⟨W, hW⟩ : ∃ W, (w.alloc (.cells #[.slice ao d.ws.length ac, .slice bo d.ts.length bc, .slice co d.fs.length cc] 26)).alloc (.cells #[.string ⟨#[]⟩, .int .i64 0, .int .i64 0, .int .i64 0, .slice none 0 0] 33) = W := ⟨_, rfl⟩
  have e1 : (w.alloc (.cells #[.slice ao d.ws.length ac, .slice bo d.ts.length bc, .slice co d.fs.length cc] 26)).heap.size = w.heap.size + 1 := by simp
  have hQ : B w W := by rw [← hW]; exact ((B.refl w).alloc _ _).alloc _ _
  have hHb : w.heap.size ≤ w.heap.size + 1 := by omega
  have ob : W.heap[w.heap.size + 1]? = some (.cells #[.string ⟨#[]⟩, .int .i64 0, .int .i64 0, .int .i64 0, .slice none 0 0] 33 (0, 0)) := by rw [← hW, ← e1]; exact heap_alloc_new _ _
  have obd : W.heap[w.heap.size]? = some (.cells #[.slice ao d.ws.length ac, .slice bo d.ts.length bc, .slice co d.fs.length cc] 26 (0, 0)) := by rw [← hW]; exact ((B.refl _).alloc _ _).obj (heap_alloc_new _ _)
  have hD := hd.keepB hQ
  have hwI := h.keep hQ
  have hgH : g < w.heap.size := hlt
  have zW : ∀ i x, (k :: l)[i]? = some x → W.cell? ⟨g, i * 2, none⟩ = some (.int .i64 ((x.1 : Nat) : Int)) ∧ W.cell? ⟨g, i * 2 + 1, none⟩ = some (.string (strB x.2)) := fun i x hx => ⟨hQ.keep (z i x hx).1, hQ.keep (z i x hx).2⟩
  have hlw := hD.ws.len
  have D0 := obj_cell obd 0
  have D1 := obj_cell obd 1
  have D2 := obj_cell obd 2
  have b0 := obj_cell ob 0
  have f0 := obj_free ob 0
  have b1 := obj_cell ob 1
  have f1 := obj_free ob 1
  have b2 := obj_cell ob 2
  have f2 := obj_free ob 2
  have b3 := obj_cell ob 3
  have f3 := obj_free ob 3
  have b4 := obj_cell ob 4
  have f4 := obj_free ob 4
  simp only [List.getElem?_toArray, List.getElem?_cons_zero, List.getElem?_cons_succ] at b0 b1 b2 b3 b4 D0 D1 D2
  have hk := zW 0 k rfl
  obtain ⟨hk1, _⟩ := hk
  obtain ⟨KA, hKA⟩ : ∃ KA, k.1 = KA := ⟨_, rfl⟩
  rw [hKA] at hk1
  unfold RecRes
  by_cases hc : l.length = 4
  · obtain ⟨n, a, b, c, rfl⟩ : ∃ n a b c, l = [n, a, b, c] := by
      match l, hc with
      | [n, a, b, c], _ => exact ⟨n, a, b, c, rfl⟩
    clear hc
    obtain ⟨n1a, n1b⟩ := zW 1 n rfl
    obtain ⟨NA, hNA⟩ : ∃ NA, n.1 = NA := ⟨_, rfl⟩
    obtain ⟨NS, hNS⟩ : ∃ NS, strB n.2 = NS := ⟨_, rfl⟩
    rw [hNA] at n1a
    rw [hNS] at n1b
    rw [show 1 * 2 = 2 from rfl] at n1a n1b
    by_cases h8 : 8 ≤ d.ws.length
    · have HE : recW d.ws 8 8 12 1000000 [k, n, a, b, c] = .error (KA, 27) := by rw [recW, if_pos h8, hKA]
      replace HE := Lib.hid HE
      have hB8 : decide ((8 : Int) ≤ (d.ws.length : Int)) = true := decide_eq_true (by omega)
      clear hD hwI zW hd h z hle hm hlt hKA obd h8 n1a n1b
      go_enter Tryz.func61, Tryz.ntmps61
      go_wp2
      try rw [hW]
      clear hW e1
      go_region
      go_wp2
      have ob6 := obj_five ob (.string ⟨#[]⟩) (.int .i64 0) (.int .i64 0) (.int .i64 0) (.slice none 0 0)
      have B6 := b_five hQ hHb (.string ⟨#[]⟩) (.int .i64 0) (.int .i64 0) (.int .i64 0) (.slice none 0 0)
      generalize (((((W.setCell ⟨w.heap.size + 1, 0, none⟩ (.string ⟨#[]⟩)).setCell ⟨w.heap.size + 1, 1, none⟩ (.int .i64 0)).setCell ⟨w.heap.size + 1, 2, none⟩ (.int .i64 0)).setCell ⟨w.heap.size + 1, 3, none⟩ (.int .i64 0)).setCell ⟨w.heap.size + 1, 4, none⟩ (.slice none 0 0)) = W6 at *
      have d0 := obj_cell ob6 0
      have d1 := obj_cell ob6 1
      have d2 := obj_cell ob6 2
      have d3 := obj_cell ob6 3
      have d4 := obj_cell ob6 4
      simp only [List.getElem?_toArray, List.getElem?_cons_zero, List.getElem?_cons_succ] at d0 d1 d2 d3 d4
      exact bodyPost_ret (v := .tuple #[.agg #[.string ⟨#[]⟩, .int .i64 0, .int .i64 0, .int .i64 0, .slice none 0 0], .int .i64 (KA : Int), .int .i64 27]) (by simp [results, Tryz.results61, go_sem, d0, d1, d2, d3, d4]) rfl (.inr ⟨KA, 27, HE.out, rfl, B6.drew⟩)
    have hB8 : decide ((8 : Int) ≤ (d.ws.length : Int)) = false := decide_eq_false (by omega)
    have cn := fun w => r8name_any NS w
    cases hnm : nameS NS
    · have HE : recW d.ws 8 8 12 1000000 [k, n, a, b, c] = .error (NA, 25) := by rw [recW, if_neg h8, hNS, if_pos (.inl hnm), hNA]
      replace HE := Lib.hid HE
      rw [hnm] at cn
      clear h8
      go_enter Tryz.func61, Tryz.ntmps61
      go_wp2_with fail
      try rw [hW]
      clear hW e1
      refine wp_region_noPanic ?_
      refine wp_region_seq (S := (fun w' => w'.cell? ⟨g, 3, none⟩ = some (.string NS) ∧ w'.cell? ⟨w.heap.size, 0, none⟩ = some (.slice ao d.ws.length ac) ∧ w'.cell? ⟨w.heap.size, 1, none⟩ = some (.slice bo d.ts.length bc) ∧ w'.cell? ⟨w.heap.size, 2, none⟩ = some (.slice co d.fs.length cc) ∧ B W w')) [(0, 0), (1, 0), (2, 0), (3, 0), (4, 2), (5, 0), (6, 0), (7, 1), (8, 1), (9, 1), (10, 1), (11, 1), (12, 1), (13, 0)] [0, 1, 2, 4, 8, 16, 48, 64, 64, 320, 576, 1088, 2240, 4160] [0, 1, 2, 4, 8, 16, 32, 64, 64, 320, 576, 1088, 2240, 4160] (by kernel_rfl) (by kernel_rfl) (fun _ _ _ _ _ h => h) ?_ (fun hH => ?_)
      · exact ⟨n1b, D0, D1, D2, (B.refl W).drew⟩
      refine wpSeq_take (d := 29) (v := ?_) rfl rfl (by kernel_rfl) (fun w hS => ?_) ?_
      rotate_left
      · go_simp <;> with_reducible rfl
      dsimp only [List.set_cons_zero, List.set_cons_succ]
      refine wpSeq_take (d := 30) (v := ?_) rfl rfl (by kernel_rfl) (fun w hS => ?_) ?_
      rotate_left
      · go_simp <;> with_reducible rfl
      dsimp only [List.set_cons_zero, List.set_cons_succ]
      refine wpSeq_take (d := 31) (v := ?_) rfl rfl (by kernel_rfl) (fun w hS => ?_) ?_
      rotate_left
      · go_simp <;> with_reducible rfl
      dsimp only [List.set_cons_zero, List.set_cons_succ]
      refine wpSeq_take (d := 32) (v := ?_) rfl rfl (by kernel_rfl) (fun w hS => ?_) ?_
      rotate_left
      · go_simp <;> with_reducible rfl
      dsimp only [List.set_cons_zero, List.set_cons_succ]
      refine wpSeq_call rfl (by kernel_rfl) (fun K hK => ?_)
      go_simp
      (with_reducible refine (cn _).mono ?_)
      rintro e w' ⟨rfl, rfl⟩
      refine hK.out _ _ hH (fun hH => ?_)
      clear hK
      refine wpSeq_take (d := 34) (v := ?_) rfl rfl (by kernel_rfl) (fun w hS => ?_) ?_
      rotate_left
      · go_simp <;> with_reducible rfl
      dsimp only [List.set_cons_zero, List.set_cons_succ]
      refine wpSeq_take (d := 35) (v := ?_) rfl rfl (by kernel_rfl) (fun w hS => ?_) ?_
      rotate_left
      · go_simp <;> with_reducible rfl
      dsimp only [List.set_cons_zero, List.set_cons_succ]
      refine wpSeq_skip (d := 36) rfl rfl (by kernel_rfl) (by rfl) ?_
      refine wpSeq_skip (d := 37) rfl rfl (by kernel_rfl) (by rfl) ?_
      refine wpSeq_skip (d := 38) rfl rfl (by kernel_rfl) (by rfl) ?_
      refine wpSeq_skip (d := 39) rfl rfl (by kernel_rfl) (by rfl) ?_
      refine wpSeq_skip (d := 40) rfl rfl (by kernel_rfl) (by rfl) ?_
      refine wpSeq_skip (d := 41) rfl rfl (by kernel_rfl) (by rfl) ?_
      refine wpSeq_take (d := 42) (v := ?_) rfl rfl (by kernel_rfl) (fun w hS => ?_) ?_
      rotate_left
      · go_simp <;> with_reducible rfl
      dsimp only [List.set_cons_zero, List.set_cons_succ]
      refine wpSeq_done ?_
      refine NoPanic.normal ?_
      obtain ⟨V, hVV⟩ : ∃ V, W.drew = V := ⟨_, rfl⟩
      try rw [hVV] at hH ⊢
      have qW := hH.2.2.2.2
      clear hH hVV
      have qV := hQ.trans qW
      have obV := qW.obj ob
      have n1aV := qW.keep n1a
      have n1bV := qW.keep n1b
      have zV : ∀ i x, [k, n, a, b, c][i]? = some x → V.cell? ⟨g, i * 2, none⟩ = some (.int .i64 ((x.1 : Nat) : Int)) ∧ V.cell? ⟨g, i * 2 + 1, none⟩ = some (.string (strB x.2)) := fun i x hx => ⟨qW.keep (zW i x hx).1, qW.keep (zW i x hx).2⟩
      have hwV := qW.below.size
      have bV0 := qW.keep b0
      have fV0 := qW.unfrozen b0 f0
      have bV1 := qW.keep b1
      have fV1 := qW.unfrozen b1 f1
      have bV2 := qW.keep b2
      have fV2 := qW.unfrozen b2 f2
      have bV3 := qW.keep b3
      have fV3 := qW.unfrozen b3 f3
      have bV4 := qW.keep b4
      have fV4 := qW.unfrozen b4 f4
      clear b0 b1 b2 b3 b4 f0 f1 f2 f3 f4 D0 D1 D2 ob obd n1a n1b zW hk1 cn hD hwI hd h z hle hm hlt hQ qW
      clear zV hwV
      go_wp2_with fail
      go_region
      go_wp2
      have ob6 := obj_five obV (.string ⟨#[]⟩) (.int .i64 0) (.int .i64 0) (.int .i64 0) (.slice none 0 0)
      have B6 := b_five qV hHb (.string ⟨#[]⟩) (.int .i64 0) (.int .i64 0) (.int .i64 0) (.slice none 0 0)
      generalize (((((V.setCell ⟨w.heap.size + 1, 0, none⟩ (.string ⟨#[]⟩)).setCell ⟨w.heap.size + 1, 1, none⟩ (.int .i64 0)).setCell ⟨w.heap.size + 1, 2, none⟩ (.int .i64 0)).setCell ⟨w.heap.size + 1, 3, none⟩ (.int .i64 0)).setCell ⟨w.heap.size + 1, 4, none⟩ (.slice none 0 0)) = W6 at *
      have d0 := obj_cell ob6 0
      have d1 := obj_cell ob6 1
      have d2 := obj_cell ob6 2
      have d3 := obj_cell ob6 3
      have d4 := obj_cell ob6 4
      simp only [List.getElem?_toArray, List.getElem?_cons_zero, List.getElem?_cons_succ] at d0 d1 d2 d3 d4
      exact bodyPost_ret (v := .tuple #[.agg #[.string ⟨#[]⟩, .int .i64 0, .int .i64 0, .int .i64 0, .slice none 0 0], .int .i64 (NA : Int), .int .i64 25]) (by simp [results, Tryz.results61, go_sem, d0, d1, d2, d3, d4]) rfl (.inr ⟨NA, 25, HE.out, rfl, B6.drew⟩)
    · rw [hnm] at cn
      go_enter Tryz.func61, Tryz.ntmps61
      go_wp2_with fail
      try rw [hW]
      clear hW e1
      refine wp_region_noPanic ?_
      refine wp_region_seq (S := (fun w' => w'.cell? ⟨g, 3, none⟩ = some (.string NS) ∧ w'.cell? ⟨w.heap.size, 0, none⟩ = some (.slice ao d.ws.length ac) ∧ w'.cell? ⟨w.heap.size, 1, none⟩ = some (.slice bo d.ts.length bc) ∧ w'.cell? ⟨w.heap.size, 2, none⟩ = some (.slice co d.fs.length cc) ∧ B W w')) [(0, 0), (1, 0), (2, 0), (3, 0), (4, 2), (5, 0), (6, 0), (7, 0), (8, 0), (9, 0), (10, 0), (11, 0), (12, 2), (13, 0)] [0, 1, 2, 4, 8, 16, 48, 64, 64, 320, 576, 1088, 2240, 4160] [0, 1, 2, 4, 8, 16, 32, 64, 64, 320, 576, 1088, 2240, 4160] (by kernel_rfl) (by kernel_rfl) (fun _ _ _ _ _ h => h) ?_ (fun hH => ?_)
      · exact ⟨n1b, D0, D1, D2, (B.refl W).drew⟩
      refine wpSeq_take (d := 29) (v := ?_) rfl rfl (by kernel_rfl) (fun w hS => ?_) ?_
      rotate_left
      · go_simp <;> with_reducible rfl
      dsimp only [List.set_cons_zero, List.set_cons_succ]
      refine wpSeq_take (d := 30) (v := ?_) rfl rfl (by kernel_rfl) (fun w hS => ?_) ?_
      rotate_left
      · go_simp <;> with_reducible rfl
      dsimp only [List.set_cons_zero, List.set_cons_succ]
      refine wpSeq_take (d := 31) (v := ?_) rfl rfl (by kernel_rfl) (fun w hS => ?_) ?_
      rotate_left
      · go_simp <;> with_reducible rfl
      dsimp only [List.set_cons_zero, List.set_cons_succ]
      refine wpSeq_take (d := 32) (v := ?_) rfl rfl (by kernel_rfl) (fun w hS => ?_) ?_
      rotate_left
      · go_simp <;> with_reducible rfl
      dsimp only [List.set_cons_zero, List.set_cons_succ]
      refine wpSeq_call rfl (by kernel_rfl) (fun K hK => ?_)
      go_simp
      (with_reducible refine (cn _).mono ?_)
      rintro e w' ⟨rfl, rfl⟩
      refine hK.out _ _ hH (fun hH => ?_)
      clear hK
      refine wpSeq_take (d := 34) (v := ?_) rfl rfl (by kernel_rfl) (fun w hS => ?_) ?_
      rotate_left
      · go_simp <;> with_reducible rfl
      dsimp only [List.set_cons_zero, List.set_cons_succ]
      refine wpSeq_take (d := 35) (v := ?_) rfl rfl (by kernel_rfl) (fun w hS => ?_) ?_
      rotate_left
      · go_simp <;> with_reducible rfl
      dsimp only [List.set_cons_zero, List.set_cons_succ]
      refine wpSeq_take (d := 36) (v := ?_) rfl rfl (by kernel_rfl) (fun w hS => ?_) ?_
      rotate_left
      · go_simp <;> with_reducible rfl
      dsimp only [List.set_cons_zero, List.set_cons_succ]
      refine wpSeq_take (d := 37) (v := ?_) rfl rfl (by kernel_rfl) (fun w hS => ?_) ?_
      rotate_left
      · go_simp <;> with_reducible rfl
      dsimp only [List.set_cons_zero, List.set_cons_succ]
      refine wpSeq_take (d := 38) (v := ?_) rfl rfl (by kernel_rfl) (fun w hS => ?_) ?_
      rotate_left
      · go_simp <;> with_reducible rfl
      dsimp only [List.set_cons_zero, List.set_cons_succ]
      refine wpSeq_take (d := 39) (v := ?_) rfl rfl (by kernel_rfl) (fun w hS => ?_) ?_
      rotate_left
      · go_simp <;> with_reducible rfl
      dsimp only [List.set_cons_zero, List.set_cons_succ]
      refine wpSeq_take (d := 40) (v := ?_) rfl rfl (by kernel_rfl) (fun w hS => ?_) ?_
      rotate_left
      · go_simp <;> with_reducible rfl
      dsimp only [List.set_cons_zero, List.set_cons_succ]
      refine wpSeq_call rfl (by kernel_rfl) (fun K hK => ?_)
      go_simp
      (with_reducible refine (r8wnamed_any _ _ _ d NS _ (hD.keepB hH.2.2.2.2)).mono ?_)
      rintro e w' ⟨rfl, hq⟩
      refine hK.out _ _ ?_ (fun hH => ?_)
      · exact ⟨hq.b.keep hH.1, hq.b.keep hH.2.1, hq.b.keep hH.2.2.1, hq.b.keep hH.2.2.2.1, hH.2.2.2.2.trans hq.b⟩
      clear hK
      refine wpSeq_take (d := 42) (v := ?_) rfl rfl (by kernel_rfl) (fun w hS => ?_) ?_
      rotate_left
      · go_simp <;> with_reducible rfl
      dsimp only [List.set_cons_zero, List.set_cons_succ]
      refine wpSeq_done ?_
      refine NoPanic.normal ?_
      obtain ⟨V, hVV⟩ : ∃ V, w' = V := ⟨_, rfl⟩
      try rw [hVV] at hH ⊢
      have qW := hH.2.2.2.2
      clear hH hVV
      have qV := hQ.trans qW
      have obV := qW.obj ob
      have n1aV := qW.keep n1a
      have n1bV := qW.keep n1b
      have zV : ∀ i x, [k, n, a, b, c][i]? = some x → V.cell? ⟨g, i * 2, none⟩ = some (.int .i64 ((x.1 : Nat) : Int)) ∧ V.cell? ⟨g, i * 2 + 1, none⟩ = some (.string (strB x.2)) := fun i x hx => ⟨qW.keep (zW i x hx).1, qW.keep (zW i x hx).2⟩
      have hwV := qW.below.size
      have bV0 := qW.keep b0
      have fV0 := qW.unfrozen b0 f0
      have bV1 := qW.keep b1
      have fV1 := qW.unfrozen b1 f1
      have bV2 := qW.keep b2
      have fV2 := qW.unfrozen b2 f2
      have bV3 := qW.keep b3
      have fV3 := qW.unfrozen b3 f3
      have bV4 := qW.keep b4
      have fV4 := qW.unfrozen b4 f4
      clear b0 b1 b2 b3 b4 f0 f1 f2 f3 f4 D0 D1 D2 ob obd n1a n1b zW hk1 cn hD hwI hd h z hle hm hlt hQ qW
      cases hnd : namedW d.ws NS
      · have HN := Lib.hid (show recW d.ws 8 8 12 1000000 [k, n, a, b, c] = (match threeW 8 12 1000000 a b c with | .error e => .error e | .ok (x, y, z) => .ok ⟨NS, x, y, z, []⟩) from by
          rw [recW, if_neg h8, hNS, if_neg (by rw [hnm, hnd]; decide)]
          cases threeW 8 12 1000000 a b c <;> rfl)
        clear hnd h8 n1aV
        obtain ⟨U, hU⟩ : ∃ U, (V.alloc (.cells #[.int .i64 8, .int .i64 12, .int .i64 1000000] 2)).alloc (.cells #[.int .i64 0, .int .i64 0, .int .i64 0] 156) = U := ⟨_, rfl⟩
        have eU : (V.alloc (.cells #[.int .i64 8, .int .i64 12, .int .i64 1000000] 2)).heap.size = V.heap.size + 1 := by simp
        have qU : B V U := by rw [← hU]; exact ((B.refl V).alloc _ _).alloc _ _
        have obN : U.heap[V.heap.size + 1]? = some (.cells #[.int .i64 0, .int .i64 0, .int .i64 0] 156 (0, 0)) := by rw [← hU, ← eU]; exact heap_alloc_new _ _
        have obM : U.heap[V.heap.size]? = some (.cells #[.int .i64 8, .int .i64 12, .int .i64 1000000] 2 (0, 0)) := by rw [← hU]; exact ((B.refl _).alloc _ _).obj (heap_alloc_new _ _)
        have obR := qU.obj obV
        have hRV : w.heap.size + 1 < V.heap.size := (Array.getElem?_eq_some_iff.1 obV).1
        have n1U := qU.keep n1bV
        have zU : ∀ i x, [k, n, a, b, c][i]? = some x → U.cell? ⟨g, i * 2, none⟩ = some (.int .i64 ((x.1 : Nat) : Int)) ∧ U.cell? ⟨g, i * 2 + 1, none⟩ = some (.string (strB x.2)) := fun i x hx => ⟨qU.keep (zV i x hx).1, qU.keep (zV i x hx).2⟩
        have qwU := qV.trans qU
        clear qU obV zV n1bV bV0 bV1 bV2 bV3 bV4 fV0 fV1 fV2 fV3 fV4 eU qV hKA hNA hNS hB8
        go_wp2
        try rw [hU]
        clear hU hwV
        obtain ⟨Mb, hMb⟩ : ∃ Mb, V.heap.size = Mb := ⟨_, rfl⟩
        rw [hMb] at obN obM hRV
        try rw [hMb]
        clear hMb
        go_loopw [9] (fun iv wr => ∃ x0 x1 x2 : Int, wr.heap[Mb + 1]? = some (.cells #[.int .i64 x0, .int .i64 x1, .int .i64 x2] 156 (0, 0)) ∧ G (fun b => b = Mb + 1) U wr ∧
          (iv = .int .i64 0 ∨ (iv = .int .i64 1 ∧ okN3 8 1 a x0) ∨ (iv = .int .i64 2 ∧ okN3 8 1 a x0 ∧ okN3 12 1 b x1) ∨ (iv = .int .i64 3 ∧ okN3 8 1 a x0 ∧ okN3 12 1 b x1 ∧ okN3 1000000 0 c x2))) (fun iv _ => 4 - (intOf iv).toNat)
        case atStart => exact ⟨0, 0, 0, obN, G.refl _ _, .inl rfl⟩
        case round =>
          clear obN
          obtain ⟨x0, x1, x2, obN, hG, hcase⟩ := hrel
          have hgM : ¬ g = Mb + 1 := by omega
          have obM' := hG.obj (show ¬ Mb = Mb + 1 by omega) obM
          have obR' := hG.obj (show ¬ w.heap.size + 1 = Mb + 1 by omega) obR
          have zz : ∀ i x, [k, n, a, b, c][i]? = some x → wr.cell? ⟨g, i * 2, none⟩ = some (.int .i64 ((x.1 : Nat) : Int)) ∧ wr.cell? ⟨g, i * 2 + 1, none⟩ = some (.string (strB x.2)) := fun i x hx => ⟨hG.keep (p := ⟨g, i * 2, none⟩) hgM (zU i x hx).1, hG.keep (p := ⟨g, i * 2 + 1, none⟩) hgM (zU i x hx).2⟩
          have qw := hG.b qwU (fun i hi => by omega)
          have M0 := obj_cell obM' 0
          have M1 := obj_cell obM' 1
          have M2 := obj_cell obM' 2
          have N0 := obj_cell obN 0
          have N1 := obj_cell obN 1
          have N2 := obj_cell obN 2
          have F0 := obj_free obN 0
          have F1 := obj_free obN 1
          have F2 := obj_free obN 2
          have r0 := obj_cell obR' 0
          have s0 := obj_free obR' 0
          have r1 := obj_cell obR' 1
          have s1 := obj_free obR' 1
          have r2 := obj_cell obR' 2
          have s2 := obj_free obR' 2
          have r3 := obj_cell obR' 3
          have s3 := obj_free obR' 3
          have r4 := obj_cell obR' 4
          have s4 := obj_free obR' 4
          simp only [List.getElem?_toArray, List.getElem?_cons_zero, List.getElem?_cons_succ] at M0 M1 M2 N0 N1 N2 r0 r1 r2 r3 r4
          have n1w := hG.keep (p := ⟨g, 3, none⟩) hgM n1U
          clear zU n1U obM obM' qwU obR
          rcases hcase with rfl | ⟨rfl, okA⟩ | ⟨rfl, okA, okB⟩ | ⟨rfl, okA, okB, okC⟩
          · obtain ⟨z1, z2⟩ := zz 2 a rfl
            rw [show 2 * 2 = 4 from rfl] at z1 z2
            have cN := fun w => r8number_any (strB a.2) w
            obtain ⟨PA, hPA⟩ : ∃ PA, a.1 = PA := ⟨_, rfl⟩
            rw [hPA] at z1
            have wki : IntKind.i64.wrap (2 + 0) = 2 := by decide
            by_cases hgood : numOk (strB a.2) = true ∧ numV (strB a.2) ≤ 8 ∧ 1 ≤ numV (strB a.2)
            · obtain ⟨g1, g2, g3⟩ := hgood
              have hOK : okN3 8 1 a (numV (strB a.2) : Int) := ⟨g1, rfl, g2, g3⟩
              rw [g1] at cN
              have t1 : decide ((8 : Int) < (numV (strB a.2) : Int)) = false := decide_eq_false (by omega)
              have t2 : decide ((numV (strB a.2) : Int) < 1) = false := decide_eq_false (by omega)
              obtain ⟨NV, hNV⟩ : ∃ NV, numV (strB a.2) = NV := ⟨_, rfl⟩
              obtain ⟨XS, hXS⟩ : ∃ XS, strB a.2 = XS := ⟨_, rfl⟩
              rw [hNV] at cN t1 t2 hOK
              rw [hXS] at cN z2
              have obN2 := obj_set obN 0 (.int .i64 (NV : Int))
              have hG2 := hG.setCell (p := ⟨Mb + 1, 0, none⟩) (.inl rfl) (.int .i64 (NV : Int))
              simp only [List.setIfInBounds_toArray, List.set_cons_zero] at obN2
              have HOK := Lib.hid hOK
              replace obN2 := Lib.hid obN2
              replace hG2 := Lib.hid hG2
              clear hOK g1 g2 g3 hNV hXS zz n1w obN hG qw obR'
              go_wp2_with fail
              refine (cN _).mono ?_
              rintro e w9 ⟨rfl, rfl⟩
              clear cN
              go_wp2
              go_roundw
              case rel => exact ⟨(NV : Int), x1, x2, obN2.out, hG2.out, .inr (.inl ⟨rfl, HOK.out⟩)⟩
              case measure => simp [intOf]
            · cases hok : numOk (strB a.2)
              · have hv0 : numV (strB a.2) = 0 := by unfold numV; rw [hok]; rfl
                rw [hok, hv0] at cN
                obtain ⟨XS, hXS⟩ : ∃ XS, strB a.2 = XS := ⟨_, rfl⟩
                rw [hXS] at cN z2
                have HE := Lib.hid (show recW d.ws 8 8 12 1000000 [k, n, a, b, c] = .error (PA, 20) from by rw [HN.out, three_one hgood, hPA])
                clear hgood zz n1w hok hv0 hXS
                go_wp2_with fail
                refine (cN _).mono ?_
                rintro e w9 ⟨rfl, rfl⟩
                clear cN
                go_wp2_with fail
                go_region
                go_wp2
                have ob6 := obj_five obR' (.string ⟨#[]⟩) (.int .i64 0) (.int .i64 0) (.int .i64 0) (.slice none 0 0)
                have B6 := b_five qw hHb (.string ⟨#[]⟩) (.int .i64 0) (.int .i64 0) (.int .i64 0) (.slice none 0 0)
                generalize (((((wr.setCell ⟨w.heap.size + 1, 0, none⟩ (.string ⟨#[]⟩)).setCell ⟨w.heap.size + 1, 1, none⟩ (.int .i64 0)).setCell ⟨w.heap.size + 1, 2, none⟩ (.int .i64 0)).setCell ⟨w.heap.size + 1, 3, none⟩ (.int .i64 0)).setCell ⟨w.heap.size + 1, 4, none⟩ (.slice none 0 0)) = W6 at *
                have d0 := obj_cell ob6 0
                have d1 := obj_cell ob6 1
                have d2 := obj_cell ob6 2
                have d3 := obj_cell ob6 3
                have d4 := obj_cell ob6 4
                simp only [List.getElem?_toArray, List.getElem?_cons_zero, List.getElem?_cons_succ] at d0 d1 d2 d3 d4
                exact bodyPost_ret (v := .tuple #[.agg #[.string ⟨#[]⟩, .int .i64 0, .int .i64 0, .int .i64 0, .slice none 0 0], .int .i64 (PA : Int), .int .i64 20]) (by simp [results, Tryz.results61, go_sem, d0, d1, d2, d3, d4]) rfl (.inr ⟨PA, 20, HE.out, rfl, B6.drew⟩)
              · rw [hok] at cN
                have hgt : 8 < numV (strB a.2) ∨ numV (strB a.2) < 1 := by
                  rw [hok] at hgood
                  have : ¬ (numV (strB a.2) ≤ 8 ∧ 1 ≤ numV (strB a.2)) := fun x => hgood ⟨rfl, x⟩
                  omega
                have HE := Lib.hid (show recW d.ws 8 8 12 1000000 [k, n, a, b, c] = .error (PA, 20) from by rw [HN.out, three_one hgood, hPA])
                obtain ⟨NV, hNV⟩ : ∃ NV, numV (strB a.2) = NV := ⟨_, rfl⟩
                obtain ⟨XS, hXS⟩ : ∃ XS, strB a.2 = XS := ⟨_, rfl⟩
                rw [hNV] at cN hgt
                rw [hXS] at cN z2
                clear hgood zz n1w hok hNV hXS
                by_cases hgt1 : 8 < NV
                · have t1 : decide ((8 : Int) < (NV : Int)) = true := decide_eq_true (by omega)
                  clear hgt hgt1
                  go_wp2_with fail
                  refine (cN _).mono ?_
                  rintro e w9 ⟨rfl, rfl⟩
                  clear cN
                  go_wp2_with fail
                  go_region
                  go_wp2
                  have ob6 := obj_five obR' (.string ⟨#[]⟩) (.int .i64 0) (.int .i64 0) (.int .i64 0) (.slice none 0 0)
                  have B6 := b_five qw hHb (.string ⟨#[]⟩) (.int .i64 0) (.int .i64 0) (.int .i64 0) (.slice none 0 0)
                  generalize (((((wr.setCell ⟨w.heap.size + 1, 0, none⟩ (.string ⟨#[]⟩)).setCell ⟨w.heap.size + 1, 1, none⟩ (.int .i64 0)).setCell ⟨w.heap.size + 1, 2, none⟩ (.int .i64 0)).setCell ⟨w.heap.size + 1, 3, none⟩ (.int .i64 0)).setCell ⟨w.heap.size + 1, 4, none⟩ (.slice none 0 0)) = W6 at *
                  have d0 := obj_cell ob6 0
                  have d1 := obj_cell ob6 1
                  have d2 := obj_cell ob6 2
                  have d3 := obj_cell ob6 3
                  have d4 := obj_cell ob6 4
                  simp only [List.getElem?_toArray, List.getElem?_cons_zero, List.getElem?_cons_succ] at d0 d1 d2 d3 d4
                  exact bodyPost_ret (v := .tuple #[.agg #[.string ⟨#[]⟩, .int .i64 0, .int .i64 0, .int .i64 0, .slice none 0 0], .int .i64 (PA : Int), .int .i64 20]) (by simp [results, Tryz.results61, go_sem, d0, d1, d2, d3, d4]) rfl (.inr ⟨PA, 20, HE.out, rfl, B6.drew⟩)
                · have t1 : decide ((8 : Int) < (NV : Int)) = false := decide_eq_false (by omega)
                  have t2 : decide ((NV : Int) < 1) = true := decide_eq_true (by omega)
                  clear hgt hgt1
                  go_wp2_with fail
                  refine (cN _).mono ?_
                  rintro e w9 ⟨rfl, rfl⟩
                  clear cN
                  go_wp2_with fail
                  go_region
                  go_wp2
                  have ob6 := obj_five obR' (.string ⟨#[]⟩) (.int .i64 0) (.int .i64 0) (.int .i64 0) (.slice none 0 0)
                  have B6 := b_five qw hHb (.string ⟨#[]⟩) (.int .i64 0) (.int .i64 0) (.int .i64 0) (.slice none 0 0)
                  generalize (((((wr.setCell ⟨w.heap.size + 1, 0, none⟩ (.string ⟨#[]⟩)).setCell ⟨w.heap.size + 1, 1, none⟩ (.int .i64 0)).setCell ⟨w.heap.size + 1, 2, none⟩ (.int .i64 0)).setCell ⟨w.heap.size + 1, 3, none⟩ (.int .i64 0)).setCell ⟨w.heap.size + 1, 4, none⟩ (.slice none 0 0)) = W6 at *
                  have d0 := obj_cell ob6 0
                  have d1 := obj_cell ob6 1
                  have d2 := obj_cell ob6 2
                  have d3 := obj_cell ob6 3
                  have d4 := obj_cell ob6 4
                  simp only [List.getElem?_toArray, List.getElem?_cons_zero, List.getElem?_cons_succ] at d0 d1 d2 d3 d4
                  exact bodyPost_ret (v := .tuple #[.agg #[.string ⟨#[]⟩, .int .i64 0, .int .i64 0, .int .i64 0, .slice none 0 0], .int .i64 (PA : Int), .int .i64 20]) (by simp [results, Tryz.results61, go_sem, d0, d1, d2, d3, d4]) rfl (.inr ⟨PA, 20, HE.out, rfl, B6.drew⟩)
          · obtain ⟨z1, z2⟩ := zz 3 b rfl
            rw [show 3 * 2 = 6 from rfl] at z1 z2
            have cN := fun w => r8number_any (strB b.2) w
            obtain ⟨PA, hPA⟩ : ∃ PA, b.1 = PA := ⟨_, rfl⟩
            rw [hPA] at z1
            have wki : IntKind.i64.wrap (2 + 1) = 3 := by decide
            by_cases hgood : numOk (strB b.2) = true ∧ numV (strB b.2) ≤ 12 ∧ 1 ≤ numV (strB b.2)
            · obtain ⟨g1, g2, g3⟩ := hgood
              have hOK : okN3 12 1 b (numV (strB b.2) : Int) := ⟨g1, rfl, g2, g3⟩
              rw [g1] at cN
              have t1 : decide ((12 : Int) < (numV (strB b.2) : Int)) = false := decide_eq_false (by omega)
              have t2 : decide ((numV (strB b.2) : Int) < 1) = false := decide_eq_false (by omega)
              obtain ⟨NV, hNV⟩ : ∃ NV, numV (strB b.2) = NV := ⟨_, rfl⟩
              obtain ⟨XS, hXS⟩ : ∃ XS, strB b.2 = XS := ⟨_, rfl⟩
              rw [hNV] at cN t1 t2 hOK
              rw [hXS] at cN z2
              have obN2 := obj_set obN 1 (.int .i64 (NV : Int))
              have hG2 := hG.setCell (p := ⟨Mb + 1, 1, none⟩) (.inl rfl) (.int .i64 (NV : Int))
              simp only [List.setIfInBounds_toArray, List.set_cons_succ, List.set_cons_zero] at obN2
              have HOK := Lib.hid hOK
              replace obN2 := Lib.hid obN2
              replace hG2 := Lib.hid hG2
              clear hOK g1 g2 g3 hNV hXS zz n1w obN hG qw obR'
              go_wp2_with fail
              refine (cN _).mono ?_
              rintro e w9 ⟨rfl, rfl⟩
              clear cN
              go_wp2
              go_roundw
              case rel => exact ⟨x0, (NV : Int), x2, obN2.out, hG2.out, .inr (.inr (.inl ⟨rfl, okA, HOK.out⟩))⟩
              case measure => simp [intOf]
            · cases hok : numOk (strB b.2)
              · have hv0 : numV (strB b.2) = 0 := by unfold numV; rw [hok]; rfl
                rw [hok, hv0] at cN
                obtain ⟨XS, hXS⟩ : ∃ XS, strB b.2 = XS := ⟨_, rfl⟩
                rw [hXS] at cN z2
                have HE := Lib.hid (show recW d.ws 8 8 12 1000000 [k, n, a, b, c] = .error (PA, 20) from by rw [HN.out, three_two okA hgood, hPA])
                clear hgood zz n1w hok hv0 hXS
                go_wp2_with fail
                refine (cN _).mono ?_
                rintro e w9 ⟨rfl, rfl⟩
                clear cN
                go_wp2_with fail
                go_region
                go_wp2
                have ob6 := obj_five obR' (.string ⟨#[]⟩) (.int .i64 0) (.int .i64 0) (.int .i64 0) (.slice none 0 0)
                have B6 := b_five qw hHb (.string ⟨#[]⟩) (.int .i64 0) (.int .i64 0) (.int .i64 0) (.slice none 0 0)
                generalize (((((wr.setCell ⟨w.heap.size + 1, 0, none⟩ (.string ⟨#[]⟩)).setCell ⟨w.heap.size + 1, 1, none⟩ (.int .i64 0)).setCell ⟨w.heap.size + 1, 2, none⟩ (.int .i64 0)).setCell ⟨w.heap.size + 1, 3, none⟩ (.int .i64 0)).setCell ⟨w.heap.size + 1, 4, none⟩ (.slice none 0 0)) = W6 at *
                have d0 := obj_cell ob6 0
                have d1 := obj_cell ob6 1
                have d2 := obj_cell ob6 2
                have d3 := obj_cell ob6 3
                have d4 := obj_cell ob6 4
                simp only [List.getElem?_toArray, List.getElem?_cons_zero, List.getElem?_cons_succ] at d0 d1 d2 d3 d4
                exact bodyPost_ret (v := .tuple #[.agg #[.string ⟨#[]⟩, .int .i64 0, .int .i64 0, .int .i64 0, .slice none 0 0], .int .i64 (PA : Int), .int .i64 20]) (by simp [results, Tryz.results61, go_sem, d0, d1, d2, d3, d4]) rfl (.inr ⟨PA, 20, HE.out, rfl, B6.drew⟩)
              · rw [hok] at cN
                have hgt : 12 < numV (strB b.2) ∨ numV (strB b.2) < 1 := by
                  rw [hok] at hgood
                  have : ¬ (numV (strB b.2) ≤ 12 ∧ 1 ≤ numV (strB b.2)) := fun x => hgood ⟨rfl, x⟩
                  omega
                have HE := Lib.hid (show recW d.ws 8 8 12 1000000 [k, n, a, b, c] = .error (PA, 20) from by rw [HN.out, three_two okA hgood, hPA])
                obtain ⟨NV, hNV⟩ : ∃ NV, numV (strB b.2) = NV := ⟨_, rfl⟩
                obtain ⟨XS, hXS⟩ : ∃ XS, strB b.2 = XS := ⟨_, rfl⟩
                rw [hNV] at cN hgt
                rw [hXS] at cN z2
                clear hgood zz n1w hok hNV hXS
                by_cases hgt1 : 12 < NV
                · have t1 : decide ((12 : Int) < (NV : Int)) = true := decide_eq_true (by omega)
                  clear hgt hgt1
                  go_wp2_with fail
                  refine (cN _).mono ?_
                  rintro e w9 ⟨rfl, rfl⟩
                  clear cN
                  go_wp2_with fail
                  go_region
                  go_wp2
                  have ob6 := obj_five obR' (.string ⟨#[]⟩) (.int .i64 0) (.int .i64 0) (.int .i64 0) (.slice none 0 0)
                  have B6 := b_five qw hHb (.string ⟨#[]⟩) (.int .i64 0) (.int .i64 0) (.int .i64 0) (.slice none 0 0)
                  generalize (((((wr.setCell ⟨w.heap.size + 1, 0, none⟩ (.string ⟨#[]⟩)).setCell ⟨w.heap.size + 1, 1, none⟩ (.int .i64 0)).setCell ⟨w.heap.size + 1, 2, none⟩ (.int .i64 0)).setCell ⟨w.heap.size + 1, 3, none⟩ (.int .i64 0)).setCell ⟨w.heap.size + 1, 4, none⟩ (.slice none 0 0)) = W6 at *
                  have d0 := obj_cell ob6 0
                  have d1 := obj_cell ob6 1
                  have d2 := obj_cell ob6 2
                  have d3 := obj_cell ob6 3
                  have d4 := obj_cell ob6 4
                  simp only [List.getElem?_toArray, List.getElem?_cons_zero, List.getElem?_cons_succ] at d0 d1 d2 d3 d4
                  exact bodyPost_ret (v := .tuple #[.agg #[.string ⟨#[]⟩, .int .i64 0, .int .i64 0, .int .i64 0, .slice none 0 0], .int .i64 (PA : Int), .int .i64 20]) (by simp [results, Tryz.results61, go_sem, d0, d1, d2, d3, d4]) rfl (.inr ⟨PA, 20, HE.out, rfl, B6.drew⟩)
                · have t1 : decide ((12 : Int) < (NV : Int)) = false := decide_eq_false (by omega)
                  have t2 : decide ((NV : Int) < 1) = true := decide_eq_true (by omega)
                  clear hgt hgt1
                  go_wp2_with fail
                  refine (cN _).mono ?_
                  rintro e w9 ⟨rfl, rfl⟩
                  clear cN
                  go_wp2_with fail
                  go_region
                  go_wp2
                  have ob6 := obj_five obR' (.string ⟨#[]⟩) (.int .i64 0) (.int .i64 0) (.int .i64 0) (.slice none 0 0)
                  have B6 := b_five qw hHb (.string ⟨#[]⟩) (.int .i64 0) (.int .i64 0) (.int .i64 0) (.slice none 0 0)
                  generalize (((((wr.setCell ⟨w.heap.size + 1, 0, none⟩ (.string ⟨#[]⟩)).setCell ⟨w.heap.size + 1, 1, none⟩ (.int .i64 0)).setCell ⟨w.heap.size + 1, 2, none⟩ (.int .i64 0)).setCell ⟨w.heap.size + 1, 3, none⟩ (.int .i64 0)).setCell ⟨w.heap.size + 1, 4, none⟩ (.slice none 0 0)) = W6 at *
                  have d0 := obj_cell ob6 0
                  have d1 := obj_cell ob6 1
                  have d2 := obj_cell ob6 2
                  have d3 := obj_cell ob6 3
                  have d4 := obj_cell ob6 4
                  simp only [List.getElem?_toArray, List.getElem?_cons_zero, List.getElem?_cons_succ] at d0 d1 d2 d3 d4
                  exact bodyPost_ret (v := .tuple #[.agg #[.string ⟨#[]⟩, .int .i64 0, .int .i64 0, .int .i64 0, .slice none 0 0], .int .i64 (PA : Int), .int .i64 20]) (by simp [results, Tryz.results61, go_sem, d0, d1, d2, d3, d4]) rfl (.inr ⟨PA, 20, HE.out, rfl, B6.drew⟩)
          · obtain ⟨z1, z2⟩ := zz 4 c rfl
            rw [show 4 * 2 = 8 from rfl] at z1 z2
            have cN := fun w => r8number_any (strB c.2) w
            obtain ⟨PA, hPA⟩ : ∃ PA, c.1 = PA := ⟨_, rfl⟩
            rw [hPA] at z1
            have wki : IntKind.i64.wrap (2 + 2) = 4 := by decide
            by_cases hgood : numOk (strB c.2) = true ∧ numV (strB c.2) ≤ 1000000
            · obtain ⟨g1, g2⟩ := hgood
              have hOK : okN3 1000000 0 c (numV (strB c.2) : Int) := ⟨g1, rfl, g2, Nat.zero_le _⟩
              rw [g1] at cN
              have t1 : decide ((1000000 : Int) < (numV (strB c.2) : Int)) = false := decide_eq_false (by omega)
              have t2 : decide ((numV (strB c.2) : Int) < 1) = true ∨ decide ((numV (strB c.2) : Int) < 1) = false := by cases decide ((numV (strB c.2) : Int) < 1) <;> simp
              obtain ⟨NV, hNV⟩ : ∃ NV, numV (strB c.2) = NV := ⟨_, rfl⟩
              obtain ⟨XS, hXS⟩ : ∃ XS, strB c.2 = XS := ⟨_, rfl⟩
              rw [hNV] at cN t1 t2 hOK
              rw [hXS] at cN z2
              have obN2 := obj_set obN 2 (.int .i64 (NV : Int))
              have hG2 := hG.setCell (p := ⟨Mb + 1, 2, none⟩) (.inl rfl) (.int .i64 (NV : Int))
              simp only [List.setIfInBounds_toArray, List.set_cons_succ, List.set_cons_zero] at obN2
              have HOK := Lib.hid hOK
              replace obN2 := Lib.hid obN2
              replace hG2 := Lib.hid hG2
              clear hOK g1 g2 hNV hXS zz n1w obN hG qw obR'
              rcases t2 with t2 | t2
              · go_wp2_with fail
                refine (cN _).mono ?_
                rintro e w9 ⟨rfl, rfl⟩
                clear cN
                go_wp2
                go_roundw
                case rel => exact ⟨x0, x1, (NV : Int), obN2.out, hG2.out, .inr (.inr (.inr ⟨rfl, okA, okB, HOK.out⟩))⟩
                case measure => simp [intOf]
              · go_wp2_with fail
                refine (cN _).mono ?_
                rintro e w9 ⟨rfl, rfl⟩
                clear cN
                go_wp2
                go_roundw
                case rel => exact ⟨x0, x1, (NV : Int), obN2.out, hG2.out, .inr (.inr (.inr ⟨rfl, okA, okB, HOK.out⟩))⟩
                case measure => simp [intOf]
            · cases hok : numOk (strB c.2)
              · have hv0 : numV (strB c.2) = 0 := by unfold numV; rw [hok]; rfl
                rw [hok, hv0] at cN
                obtain ⟨XS, hXS⟩ : ∃ XS, strB c.2 = XS := ⟨_, rfl⟩
                rw [hXS] at cN z2
                have HE := Lib.hid (show recW d.ws 8 8 12 1000000 [k, n, a, b, c] = .error (PA, 20) from by rw [HN.out, three_three okA okB hgood, hPA])
                clear hgood zz n1w hok hv0 hXS
                go_wp2_with fail
                refine (cN _).mono ?_
                rintro e w9 ⟨rfl, rfl⟩
                clear cN
                go_wp2_with fail
                go_region
                go_wp2
                have ob6 := obj_five obR' (.string ⟨#[]⟩) (.int .i64 0) (.int .i64 0) (.int .i64 0) (.slice none 0 0)
                have B6 := b_five qw hHb (.string ⟨#[]⟩) (.int .i64 0) (.int .i64 0) (.int .i64 0) (.slice none 0 0)
                generalize (((((wr.setCell ⟨w.heap.size + 1, 0, none⟩ (.string ⟨#[]⟩)).setCell ⟨w.heap.size + 1, 1, none⟩ (.int .i64 0)).setCell ⟨w.heap.size + 1, 2, none⟩ (.int .i64 0)).setCell ⟨w.heap.size + 1, 3, none⟩ (.int .i64 0)).setCell ⟨w.heap.size + 1, 4, none⟩ (.slice none 0 0)) = W6 at *
                have d0 := obj_cell ob6 0
                have d1 := obj_cell ob6 1
                have d2 := obj_cell ob6 2
                have d3 := obj_cell ob6 3
                have d4 := obj_cell ob6 4
                simp only [List.getElem?_toArray, List.getElem?_cons_zero, List.getElem?_cons_succ] at d0 d1 d2 d3 d4
                exact bodyPost_ret (v := .tuple #[.agg #[.string ⟨#[]⟩, .int .i64 0, .int .i64 0, .int .i64 0, .slice none 0 0], .int .i64 (PA : Int), .int .i64 20]) (by simp [results, Tryz.results61, go_sem, d0, d1, d2, d3, d4]) rfl (.inr ⟨PA, 20, HE.out, rfl, B6.drew⟩)
              · rw [hok] at cN
                have hgt : 1000000 < numV (strB c.2) := by
                  rw [hok] at hgood
                  have : ¬ numV (strB c.2) ≤ 1000000 := fun x => hgood ⟨rfl, x⟩
                  omega
                have HE := Lib.hid (show recW d.ws 8 8 12 1000000 [k, n, a, b, c] = .error (PA, 20) from by rw [HN.out, three_three okA okB hgood, hPA])
                obtain ⟨NV, hNV⟩ : ∃ NV, numV (strB c.2) = NV := ⟨_, rfl⟩
                obtain ⟨XS, hXS⟩ : ∃ XS, strB c.2 = XS := ⟨_, rfl⟩
                rw [hNV] at cN hgt
                rw [hXS] at cN z2
                clear hgood zz n1w hok hNV hXS
                by_cases hgt1 : 1000000 < NV
                · have t1 : decide ((1000000 : Int) < (NV : Int)) = true := decide_eq_true (by omega)
                  clear hgt hgt1
                  go_wp2_with fail
                  refine (cN _).mono ?_
                  rintro e w9 ⟨rfl, rfl⟩
                  clear cN
                  go_wp2_with fail
                  go_region
                  go_wp2
                  have ob6 := obj_five obR' (.string ⟨#[]⟩) (.int .i64 0) (.int .i64 0) (.int .i64 0) (.slice none 0 0)
                  have B6 := b_five qw hHb (.string ⟨#[]⟩) (.int .i64 0) (.int .i64 0) (.int .i64 0) (.slice none 0 0)
                  generalize (((((wr.setCell ⟨w.heap.size + 1, 0, none⟩ (.string ⟨#[]⟩)).setCell ⟨w.heap.size + 1, 1, none⟩ (.int .i64 0)).setCell ⟨w.heap.size + 1, 2, none⟩ (.int .i64 0)).setCell ⟨w.heap.size + 1, 3, none⟩ (.int .i64 0)).setCell ⟨w.heap.size + 1, 4, none⟩ (.slice none 0 0)) = W6 at *
                  have d0 := obj_cell ob6 0
                  have d1 := obj_cell ob6 1
                  have d2 := obj_cell ob6 2
                  have d3 := obj_cell ob6 3
                  have d4 := obj_cell ob6 4
                  simp only [List.getElem?_toArray, List.getElem?_cons_zero, List.getElem?_cons_succ] at d0 d1 d2 d3 d4
                  exact bodyPost_ret (v := .tuple #[.agg #[.string ⟨#[]⟩, .int .i64 0, .int .i64 0, .int .i64 0, .slice none 0 0], .int .i64 (PA : Int), .int .i64 20]) (by simp [results, Tryz.results61, go_sem, d0, d1, d2, d3, d4]) rfl (.inr ⟨PA, 20, HE.out, rfl, B6.drew⟩)
                · omega
          · have HE := Lib.hid (show recW d.ws 8 8 12 1000000 [k, n, a, b, c] = .ok ⟨NS, x0, x1, x2, []⟩ from by
              rw [HN.out, three_all okA okB okC, okA.2.1, okB.2.1, okC.2.1])
            clear zz okA okB okC
            go_wp2_with fail
            go_region
            go_wp2
            have ob6 := obj_five obR' (.string NS) (.int .i64 x0) (.int .i64 x1) (.int .i64 x2) (.slice none 0 0)
            have B6 := b_five qw hHb (.string NS) (.int .i64 x0) (.int .i64 x1) (.int .i64 x2) (.slice none 0 0)
            generalize (((((wr.setCell ⟨w.heap.size + 1, 0, none⟩ (.string NS)).setCell ⟨w.heap.size + 1, 1, none⟩ (.int .i64 x0)).setCell ⟨w.heap.size + 1, 2, none⟩ (.int .i64 x1)).setCell ⟨w.heap.size + 1, 3, none⟩ (.int .i64 x2)).setCell ⟨w.heap.size + 1, 4, none⟩ (.slice none 0 0)) = W6 at *
            have d0 := obj_cell ob6 0
            have d1 := obj_cell ob6 1
            have d2 := obj_cell ob6 2
            have d3 := obj_cell ob6 3
            have d4 := obj_cell ob6 4
            simp only [List.getElem?_toArray, List.getElem?_cons_zero, List.getElem?_cons_succ] at d0 d1 d2 d3 d4
            exact bodyPost_ret (v := .tuple #[.agg #[.string NS, .int .i64 x0, .int .i64 x1, .int .i64 x2, .slice none 0 0], .int .i64 0, .int .i64 0]) (by simp [results, Tryz.results61, go_sem, d0, d1, d2, d3, d4]) rfl (.inl ⟨_, HE.out, rfl, rfl, B6.drew⟩)
      · have HE : recW d.ws 8 8 12 1000000 [k, n, a, b, c] = .error (NA, 25) := by rw [recW, if_neg h8, hNS, if_pos (.inr hnd), hNA]
        replace HE := Lib.hid HE
        clear zV hwV h8 hnd
        go_wp2_with fail
        go_region
        go_wp2
        have ob6 := obj_five obV (.string ⟨#[]⟩) (.int .i64 0) (.int .i64 0) (.int .i64 0) (.slice none 0 0)
        have B6 := b_five qV hHb (.string ⟨#[]⟩) (.int .i64 0) (.int .i64 0) (.int .i64 0) (.slice none 0 0)
        generalize (((((V.setCell ⟨w.heap.size + 1, 0, none⟩ (.string ⟨#[]⟩)).setCell ⟨w.heap.size + 1, 1, none⟩ (.int .i64 0)).setCell ⟨w.heap.size + 1, 2, none⟩ (.int .i64 0)).setCell ⟨w.heap.size + 1, 3, none⟩ (.int .i64 0)).setCell ⟨w.heap.size + 1, 4, none⟩ (.slice none 0 0)) = W6 at *
        have d0 := obj_cell ob6 0
        have d1 := obj_cell ob6 1
        have d2 := obj_cell ob6 2
        have d3 := obj_cell ob6 3
        have d4 := obj_cell ob6 4
        simp only [List.getElem?_toArray, List.getElem?_cons_zero, List.getElem?_cons_succ] at d0 d1 d2 d3 d4
        exact bodyPost_ret (v := .tuple #[.agg #[.string ⟨#[]⟩, .int .i64 0, .int .i64 0, .int .i64 0, .slice none 0 0], .int .i64 (NA : Int), .int .i64 25]) (by simp [results, Tryz.results61, go_sem, d0, d1, d2, d3, d4]) rfl (.inr ⟨NA, 25, HE.out, rfl, B6.drew⟩)
  · have HE : recW d.ws 8 8 12 1000000 (k :: l) = .error (KA, 24) := by
      rw [← hKA]
      match l, hc with
      | [], _ => rfl
      | [_], _ => rfl
      | [_, _], _ => rfl
      | [_, _, _], _ => rfl
      | _ :: _ :: _ :: _ :: _ :: _, _ => rfl
      | [_, _, _, _], hh => exact absurd rfl hh
    replace HE := Lib.hid HE
    have hcB : ((l.length : Int) + 1 != 5) = true := by simp; omega
    clear hD hwI zW hd h z hc hle hm hlt hKA obd
    go_enter Tryz.func61, Tryz.ntmps61
    go_wp2
    try rw [hW]
    clear hW e1
    go_region
    go_wp2
    have ob6 := obj_five ob (.string ⟨#[]⟩) (.int .i64 0) (.int .i64 0) (.int .i64 0) (.slice none 0 0)
    have B6 := b_five hQ hHb (.string ⟨#[]⟩) (.int .i64 0) (.int .i64 0) (.int .i64 0) (.slice none 0 0)
    generalize (((((W.setCell ⟨w.heap.size + 1, 0, none⟩ (.string ⟨#[]⟩)).setCell ⟨w.heap.size + 1, 1, none⟩ (.int .i64 0)).setCell ⟨w.heap.size + 1, 2, none⟩ (.int .i64 0)).setCell ⟨w.heap.size + 1, 3, none⟩ (.int .i64 0)).setCell ⟨w.heap.size + 1, 4, none⟩ (.slice none 0 0)) = W6 at *
    have d0 := obj_cell ob6 0
    have d1 := obj_cell ob6 1
    have d2 := obj_cell ob6 2
    have d3 := obj_cell ob6 3
    have d4 := obj_cell ob6 4
    simp only [List.getElem?_toArray, List.getElem?_cons_zero, List.getElem?_cons_succ] at d0 d1 d2 d3 d4
    exact bodyPost_ret (v := .tuple #[.agg #[.string ⟨#[]⟩, .int .i64 0, .int .i64 0, .int .i64 0, .slice none 0 0], .int .i64 (KA : Int), .int .i64 24]) (by simp [results, Tryz.results61, go_sem, d0, d1, d2, d3, d4]) rfl (.inr ⟨KA, 24, HE.out, rfl, B6.drew⟩)
end Go.Proofs.YtflklpflpjdbmaaGreatDoor
