/-
 Contracts and what they rest on.
-/
import Derived.Test.YtglniapfnhedoaaGreatDoorY19
import Derived.Test.YtglniapfnhedoaaGreatDoorY20
namespace Go.Proofs.YtglniapfnhedoaaGreatDoor
open Go.RowKit
set_option linter.unusedVariables false
set_option maxRecDepth 100000 in
set_option maxHeartbeats 1600000 in
theorem addSecBoxWare_any (Wb w : World) (base R S bw bt bf gW cap : Nat) (wv tv fv v : Value) (head : Int) (ws0 ws ts : List Wr) (r : Wr) (fs : List Fl) (nw nt : List ByteArray) (fl : List Fl) (ss tt ss0 : List Value) (x1 x2 x3 x4 x5 : Wd) (hb : Wb.heap.size ≤ base) (hB : B Wb w) (hbw : base ≤ w.heap.size) (hR : base ≤ R)
  (h : RdAt Wb w R [x1, x2, x3, x4, x5] 0 0) (hS : StAt w base S bw bt bf (.slice (some ⟨gW, 0, none⟩) (ws0.length + 1) cap) tv fv (.pointer (some ⟨gW, ws0.length * 5 + 4, none⟩)) head ⟨ws0 ++ [r], ts, fs⟩ nw nt fl (ss0 ++ [v]) tt) (hl : r.l.length < 100000) :
  Calls Tryz.prog 67 #[.pointer (some ⟨S, 0, none⟩), .bool false, .pointer (some ⟨R, 0, none⟩)] w fun r' w' => r' = .returned (.tuple #[]) ∧
   ∃ v', RdAt Wb w' R [] (fas [x1, x2, x3, x4, x5] (0, 0)).1 (fas [x1, x2, x3, x4, x5] (0, 0)).2 ∧ StAt w' base S bw bt bf (.slice (some ⟨gW, 0, none⟩) (ws0.length + 1) cap) tv fv (.pointer (some ⟨gW, ws0.length * 5 + 4, none⟩)) head ⟨ws0 ++ [moreR r ⟨false, ((numV (strB x1.2) : Nat) : Int), ((numV (strB x2.2) : Nat) : Int), ((numV (strB x3.2) : Nat) : Int), ((numV (strB x4.2) : Nat) : Int), ((numV (strB x5.2) : Nat) : Int)⟩], ts, fs⟩ nw nt fl (ss0 ++ [v']) tt ∧ Tn kS base w w' := by
 obtain ⟨i0, hi0, hz0, hz1, hz2⟩ := info_of secInfo9
 have c0 := size9_any Wb w base R x1 [x2, x3, x4, x5] 0 0 hb hB hR h
 have nv : ∀ x : Wd, I64 ((numV (strB x.2) : Nat) : Int) := fun x => by
  unfold I64
  cases ho : numOk (strB x.2)
  ·rw [(num_no (fun h => by have := numOk_iff.2 h; rw [ho] at this; cases this)).2]; omega
  ·rw [(num_yes (numOk_iff.1 ho)).2]
   have := (numOk_iff.1 ho).2.2.2
   omega
 go_enter Tryz.func67, Tryz.ntmps67
 go_wp2_with fail
 refine (Calls.mono c0 ?_)
 rintro _ w1 ⟨rfl, h1, t1⟩
 clear c0
 have c1 := size9_any Wb w1 base R x2 [x3, x4, x5] _ _ hb (t1.toB hB hb) hR h1
 go_wp2_with fail
 refine (Calls.mono c1 ?_)
 rintro _ w2 ⟨rfl, h2, t2⟩
 clear c1
 have qB : B w2 (w2.alloc (.cells #[.bool false, .int .i64 ((numV (strB x1.2) : Nat) : Int), .int .i64 ((numV (strB x2.2) : Nat) : Int), .int .i64 0, .int .i64 0, .int .i64 0] 37)) := (B.refl w2).alloc _ _
 have oL := obj_new w2 (.cells #[.bool false, .int .i64 ((numV (strB x1.2) : Nat) : Int), .int .i64 ((numV (strB x2.2) : Nat) : Int), .int .i64 0, .int .i64 0, .int .i64 0] 37)
 have tL : Tn kR base w (w2.alloc (.cells #[.bool false, .int .i64 ((numV (strB x1.2) : Nat) : Int), .int .i64 ((numV (strB x2.2) : Nat) : Int), .int .i64 0, .int .i64 0, .int .i64 0] 37)) := (t1.trans t2).alloc _ _
 have h1' := h2.tn (qB.tn [] base) (by simp)
 have hLge := (t1.trans t2).size
 have hLn : ∀ (b : World), Tn kR base w b → ∀ k v, Tn kR base w (b.setCell ⟨w2.heap.size, k, none⟩ v) := fun b hb k v => hb.setNew (p := ⟨w2.heap.size, k, none⟩) (t1.trans t2).size v
 go_wp2_with fail
 generalize w2.alloc (.cells #[.bool false, .int .i64 ((numV (strB x1.2) : Nat) : Int), .int .i64 ((numV (strB x2.2) : Nat) : Int), .int .i64 0, .int .i64 0, .int .i64 0] 37) = w3 at *
 generalize w2.heap.size = L at *
 clear h1 h2 t1 t2 qB
 have hRL : R ≠ L := fun e => by
  obtain ⟨v, k, _⟩ := h1'
  rw [e, oL] at k
  injection k with k
  injection k with _ k
  exact absurd k (by decide)
 have c1 := size9_any Wb w3 base R x3 _ _ _ hb (tL.toB hB hb) hR h1'
 go_wp2_with fail
 refine (Calls.mono c1 ?_)
 rintro _ w4 ⟨rfl, h3, t3⟩
 clear c1
 have oL3 := t3.objc oL (by decide)
 have d0 : w4.cell? ⟨L, 3, none⟩ = some (.int .i64 0) := obj_cell oL3 3
 have df := obj_free oL3 3
 go_wp2_with fail
 replace oL := obj_set oL3 3 (.int .i64 ((numV (strB x3.2) : Nat) : Int))
 replace tL := hLn _ (tL.trans t3) 3 (.int .i64 ((numV (strB x3.2) : Nat) : Int))
 replace h1' := RdAt.same h3 (Below.heap_setCell w4 ⟨L, 3, none⟩ (.int .i64 ((numV (strB x3.2) : Nat) : Int)) R hRL)
 generalize w4.setCell ⟨L, 3, none⟩ (.int .i64 ((numV (strB x3.2) : Nat) : Int)) = w5 at *
 clear t3 h3 oL3 d0 df
 have c1 := size9_any Wb w5 base R x4 _ _ _ hb (tL.toB hB hb) hR h1'
 go_wp2_with fail
 refine (Calls.mono c1 ?_)
 rintro _ w6 ⟨rfl, h3, t3⟩
 clear c1
 have oL3 := t3.objc oL (by decide)
 have d0 : w6.cell? ⟨L, 4, none⟩ = some (.int .i64 0) := obj_cell oL3 4
 have df := obj_free oL3 4
 go_wp2_with fail
 replace oL := obj_set oL3 4 (.int .i64 ((numV (strB x4.2) : Nat) : Int))
 replace tL := hLn _ (tL.trans t3) 4 (.int .i64 ((numV (strB x4.2) : Nat) : Int))
 replace h1' := RdAt.same h3 (Below.heap_setCell w6 ⟨L, 4, none⟩ (.int .i64 ((numV (strB x4.2) : Nat) : Int)) R hRL)
 generalize w6.setCell ⟨L, 4, none⟩ (.int .i64 ((numV (strB x4.2) : Nat) : Int)) = w7 at *
 clear t3 h3 oL3 d0 df
 have c1 := size9_any Wb w7 base R x5 _ _ _ hb (tL.toB hB hb) hR h1'
 go_wp2_with fail
 refine (Calls.mono c1 ?_)
 rintro _ w8 ⟨rfl, h3, t3⟩
 clear c1
 have oL3 := t3.objc oL (by decide)
 have d0 : w8.cell? ⟨L, 5, none⟩ = some (.int .i64 0) := obj_cell oL3 5
 have df := obj_free oL3 5
 go_wp2_with fail
 replace oL := obj_set oL3 5 (.int .i64 ((numV (strB x5.2) : Nat) : Int))
 replace tL := hLn _ (tL.trans t3) 5 (.int .i64 ((numV (strB x5.2) : Nat) : Int))
 replace h1' := RdAt.same h3 (Below.heap_setCell w8 ⟨L, 5, none⟩ (.int .i64 ((numV (strB x5.2) : Nat) : Int)) R hRL)
 generalize w8.setCell ⟨L, 5, none⟩ (.int .i64 ((numV (strB x5.2) : Nat) : Int)) = w9 at *
 clear t3 h3 oL3 d0 df
 go_wp2_with fail
 have oS8 := tL.objc hS.obj (by decide)
 have row8 := hS.rows.tn tL (by decide) (by decide) (by decide) (by decide)
 obtain ⟨m, hm⟩ : ∃ m, ws0.length = m := ⟨_, rfl⟩
 have hsl : ss0.length = ws0.length := by have := hS.rows.sl; simpa using this
 have qA : B w9 (w9.drew.alloc (.cells #[.bool false, .int .i64 ((numV (strB x1.2) : Nat) : Int), .int .i64 ((numV (strB x2.2) : Nat) : Int), .int .i64 ((numV (strB x3.2) : Nat) : Int), .int .i64 ((numV (strB x4.2) : Nat) : Int), .int .i64 ((numV (strB x5.2) : Nat) : Int)] 37)) := (B.refl w9).drew.alloc _ _
 have hown := ownsRow_keepB (row8.sh ws0.length r v (by simp) (by rw [← hsl]; simp)) qA
 have hbase : base ≤ (w9.drew.alloc (.cells #[.bool false, .int .i64 ((numV (strB x1.2) : Nat) : Int), .int .i64 ((numV (strB x2.2) : Nat) : Int), .int .i64 ((numV (strB x3.2) : Nat) : Int), .int .i64 ((numV (strB x4.2) : Nat) : Int), .int .i64 ((numV (strB x5.2) : Nat) : Int)] 37)).heap.size := Nat.le_trans hbw (Nat.le_trans tL.size qA.below.size)
 obtain ⟨_, curG, oG⟩ := ownsRow_obj row8.ws (i := gW) rfl
 have hGc : curG[m * 5 + 4]? = some v := by
  have h1 := row8.ws.cells (g := gW) rfl (m * 5 + 4) v (by rw [← hm, flatR_get _ _ ws0.length 4 r v (by simp) (by rw [← hsl]; simp) (by omega)]; rfl)
  rw [add0, obj_cell oG] at h1
  exact h1
 have s6 : w9.drew.cell? ⟨S, 6, none⟩ = some (.pointer (some ⟨gW, m * 5 + 4, none⟩)) := by rw [← hm]; exact obj_cell (w := w9.drew) oS8 6
 have sv : w9.drew.cell? ⟨gW, m * 5 + 4, none⟩ = some v := (obj_cell (w := w9.drew) oG _).trans hGc
 have l0 : w9.drew.cell? ⟨L, 0, none⟩ = some (.bool false) := obj_cell (w := w9.drew) oL 0
 have l1 : w9.drew.cell? ⟨L, 1, none⟩ = some (.int .i64 ((numV (strB x1.2) : Nat) : Int)) := obj_cell (w := w9.drew) oL 1
 have l2 : w9.drew.cell? ⟨L, 2, none⟩ = some (.int .i64 ((numV (strB x2.2) : Nat) : Int)) := obj_cell (w := w9.drew) oL 2
 have l3 : w9.drew.cell? ⟨L, 3, none⟩ = some (.int .i64 ((numV (strB x3.2) : Nat) : Int)) := obj_cell (w := w9.drew) oL 3
 have l4 : w9.drew.cell? ⟨L, 4, none⟩ = some (.int .i64 ((numV (strB x4.2) : Nat) : Int)) := obj_cell (w := w9.drew) oL 4
 have l5 : w9.drew.cell? ⟨L, 5, none⟩ = some (.int .i64 ((numV (strB x5.2) : Nat) : Int)) := obj_cell (w := w9.drew) oL 5
 have rL : v.ownBlock ≠ some L := fun e => by
  have := ((hS.rows.sh ws0.length r v (by simp) (by rw [← hsl]; simp)).lt L e).2
  omega
 have hfact : ∀ wz : World, wz.heap[S]? = w9.heap[S]? → wz.cell? ⟨gW, m * 5 + 4, none⟩ = some v → wz.heap[L]? = w9.heap[L]? → wz.cell? ⟨S, 6, none⟩ = some (.pointer (some ⟨gW, m * 5 + 4, none⟩)) ∧ wz.cell? ⟨gW, m * 5 + 4, none⟩ = some v ∧ wz.cell? ⟨L, 0, none⟩ = some (.bool false) ∧ wz.cell? ⟨L, 1, none⟩ = some (.int .i64 ((numV (strB x1.2) : Nat) : Int)) ∧ wz.cell? ⟨L, 2, none⟩ = some (.int .i64 ((numV (strB x2.2) : Nat) : Int)) ∧ wz.cell? ⟨L, 3, none⟩ = some (.int .i64 ((numV (strB x3.2) : Nat) : Int)) ∧ wz.cell? ⟨L, 4, none⟩ = some (.int .i64 ((numV (strB x4.2) : Nat) : Int)) ∧ wz.cell? ⟨L, 5, none⟩ = some (.int .i64 ((numV (strB x5.2) : Nat) : Int)) :=
  fun wz hs hv hl => ⟨(obj_cell (hs.trans oS8) 6).trans (by rw [← hm]; rfl), hv, obj_cell (hl.trans oL) 0, obj_cell (hl.trans oL) 1, obj_cell (hl.trans oL) 2, obj_cell (hl.trans oL) 3, obj_cell (hl.trans oL) 4, obj_cell (hl.trans oL) 5⟩
 have HX := Lib.hid (And.intro tL (And.intro h1' (And.intro hLn row8)))
 clear tL h1' hLn row8
 refine wp_region_noPanic ?_
 refine wp_region_gate (S := fun w' => w'.cell? ⟨S, 6, none⟩ = some (.pointer (some ⟨gW, m * 5 + 4, none⟩)) ∧ w'.cell? ⟨gW, m * 5 + 4, none⟩ = some v ∧ w'.cell? ⟨L, 0, none⟩ = some (.bool false) ∧ w'.cell? ⟨L, 1, none⟩ = some (.int .i64 ((numV (strB x1.2) : Nat) : Int)) ∧ w'.cell? ⟨L, 2, none⟩ = some (.int .i64 ((numV (strB x2.2) : Nat) : Int)) ∧ w'.cell? ⟨L, 3, none⟩ = some (.int .i64 ((numV (strB x3.2) : Nat) : Int)) ∧ w'.cell? ⟨L, 4, none⟩ = some (.int .i64 ((numV (strB x4.2) : Nat) : Int)) ∧ w'.cell? ⟨L, 5, none⟩ = some (.int .i64 ((numV (strB x5.2) : Nat) : Int))) 14 [(0, 3), (1, 3), (2, 3), (3, 0), (4, 3), (5, 3), (6, 3), (7, 0), (8, 3), (9, 0), (10, 0), (11, 2), (12, 2), (13, 3), (14, 4)] [0, 1, 2, 4, 0, 16, 32, 64, 128, 256, 0, 1024, 2560, 8191, 16383] [0, 1, 2, 4, 0, 16, 32, 64, 128, 256, 0, 1024, 2560, 8, 12288] [0, 0, 0, 24584, 0, 0, 0, 29568, 0, 29184, 31744, 0, 0, 0, 0] (by kernel_rfl) (by kernel_rfl) (fun _ _ _ _ _ h => h) ?_ (fun hH => ?_)
 ·exact ⟨s6, sv, l0, l1, l2, l3, l4, l5⟩
 refine wpSeqG_free (d := 26) (v := ?_) rfl rfl (by kernel_rfl) (fun w => ?_) ?_
 rotate_left
 ·go_simp <;> with_reducible rfl
 dsimp only [sZ, sS]
 refine wpSeqG_free (d := 27) (v := ?_) rfl rfl (by kernel_rfl) (fun w => ?_) ?_
 rotate_left
 ·go_simp <;> with_reducible rfl
 dsimp only [sZ, sS]
 refine wpSeqG_free (d := 28) (v := ?_) rfl rfl (by kernel_rfl) (fun w => ?_) ?_
 rotate_left
 ·go_simp <;> with_reducible rfl
 dsimp only [sZ, sS]
 refine wpSeqG_take (d := 29) (v := ?_) rfl rfl (by kernel_rfl) (fun w hS => ?_) ?_
 rotate_left
 ·go_simp <;> with_reducible rfl
 dsimp only [sZ, sS]
 refine wpSeqG_free (d := 30) (v := ?_) rfl rfl (by kernel_rfl) (fun w => ?_) ?_
 rotate_left
 ·go_simp <;> with_reducible rfl
 dsimp only [sZ, sS]
 refine wpSeqG_free (d := 31) (v := ?_) rfl rfl (by kernel_rfl) (fun w => ?_) ?_
 rotate_left
 ·go_simp <;> with_reducible rfl
 dsimp only [sZ, sS]
 refine wpSeqG_free (d := 32) (v := ?_) rfl rfl (by kernel_rfl) (fun w => ?_) ?_
 rotate_left
 ·go_simp <;> with_reducible rfl
 dsimp only [sZ, sS]
 refine wpSeqG_take (d := 33) (v := ?_) rfl rfl (by kernel_rfl) (fun w hS => ?_) ?_
 rotate_left
 ·go_simp <;> with_reducible rfl
 dsimp only [sZ, sS]
 refine wpSeqG_free (d := 34) (v := ?_) rfl rfl (by kernel_rfl) (fun w => ?_) ?_
 rotate_left
 ·go_simp <;> with_reducible rfl
 dsimp only [sZ, sS]
 refine wpSeqG_take (d := 35) (v := ?_) rfl rfl (by kernel_rfl) (fun w hS => ?_) ?_
 rotate_left
 ·go_simp <;> with_reducible rfl
 dsimp only [sZ, sS]
 refine wpSeqG_take (d := 36) (v := ?_) rfl rfl (by kernel_rfl) (fun w hS => ?_) ?_
 rotate_left
 ·go_simp <;> with_reducible rfl
 dsimp only [sZ, sS]
 refine wpSeqG_call rfl (by kernel_rfl) (fun K hK => ?_)
 go_simp
 refine hK.out _ _ ?_ (fun hH => ?_)
 ·first | exact ⟨((B.refl _).alloc _ _).keep hH.1, ((B.refl _).alloc _ _).keep hH.2.1, ((B.refl _).alloc _ _).keep hH.2.2.1, ((B.refl _).alloc _ _).keep hH.2.2.2.1, ((B.refl _).alloc _ _).keep hH.2.2.2.2.1, ((B.refl _).alloc _ _).keep hH.2.2.2.2.2.1, ((B.refl _).alloc _ _).keep hH.2.2.2.2.2.2.1, ((B.refl _).alloc _ _).keep hH.2.2.2.2.2.2.2⟩ | exact hS9
 clear hK
 refine wpSeqG_call rfl (by kernel_rfl) (fun K hK => ?_)
 refine wp_append_lies _ _ _ 31 rfl base 37 i0 (.agg #[.bool false, .int .i64 0, .int .i64 0, .int .i64 0, .int .i64 0, .int .i64 0]) 6 48 (by kernel_rfl) hi0 hz0 hz1 hz2 rfl (by omega) _ _ _ rfl hown ⟨w9.heap.size, 0, none⟩ 1 1 [.bool false, .int .i64 ((numV (strB x1.2) : Nat) : Int), .int .i64 ((numV (strB x2.2) : Nat) : Int), .int .i64 ((numV (strB x3.2) : Nat) : Int), .int .i64 ((numV (strB x4.2) : Nat) : Int), .int .i64 ((numV (strB x5.2) : Nat) : Int)] rfl rfl (news_plain rfl) (by intro u hu; simp only [List.mem_cons, List.not_mem_nil, or_false] at hu; rcases hu with rfl | rfl | rfl | rfl | rfl | rfl <;> rfl) (by omega) (by unfold maxLen; omega) (by omega) hbase _ rfl ?_
 intro gN cN wz hownN hgrowN hatN hltN
 have oG9 := obj_grown hgrowN (qA.obj oG) (far_own (qA.obj oG) hown (by decide))
 have y0 : wz.cell? ⟨gW, m * 5 + 4, none⟩ = some v := (obj_cell oG9 _).trans hGc
 have y1 := obj_free oG9 (m * 5 + 4)
 have oL9 := obj_grown hgrowN (qA.obj oL) rL
 have oS9 := obj_grown hgrowN (qA.obj oS8) (far_own (qA.obj oS8) hown (by decide))
 have hS9 := hfact wz (oS9.trans oS8.symm) y0 (oL9.trans oL.symm)
 clear hfact
 try simp only [Act.put, List.setIfInBounds_toArray, List.set_cons_zero, List.set_cons_succ]
 refine hK.out _ _ ?_ (fun hH => ?_)
 ·first | exact ⟨((B.refl _).alloc _ _).keep hH.1, ((B.refl _).alloc _ _).keep hH.2.1, ((B.refl _).alloc _ _).keep hH.2.2.1, ((B.refl _).alloc _ _).keep hH.2.2.2.1, ((B.refl _).alloc _ _).keep hH.2.2.2.2.1, ((B.refl _).alloc _ _).keep hH.2.2.2.2.2.1, ((B.refl _).alloc _ _).keep hH.2.2.2.2.2.2.1, ((B.refl _).alloc _ _).keep hH.2.2.2.2.2.2.2⟩ | exact hS9
 clear hK
 refine wpSeqG_free (d := 39) (v := ?_) rfl rfl (by kernel_rfl) (fun w => ?_) ?_
 rotate_left
 ·go_simp <;> with_reducible rfl
 dsimp only [sZ, sS]
 refine wpSeqG_gate rfl (by kernel_rfl) (fun K hK => ?_)
 go_simp
 refine hK.out _ _ ?_
 clear hK
 refine wpSeqG_done ?_
 refine NoPanic.normal ?_
 all_goals
  first | go_end0 | refine bodyPost_ret (results_none rfl _ _ _) rfl ?_
  subst hm
  obtain ⟨tL, h1', hLn, row8⟩ := HX.out
  have rowA := row8.b qA
  have sI : Sec.I ⟨false, ((numV (strB x1.2) : Nat) : Int), ((numV (strB x2.2) : Nat) : Int), ((numV (strB x3.2) : Nat) : Int), ((numV (strB x4.2) : Nat) : Int), ((numV (strB x5.2) : Nat) : Int)⟩ := by
   exact ⟨nv _, nv _, nv _, nv _, nv _⟩
  have rowz := rowA.addSW (s := ⟨false, ((numV (strB x1.2) : Nat) : Int), ((numV (strB x2.2) : Nat) : Int), ((numV (strB x3.2) : Nat) : Int), ((numV (strB x4.2) : Nat) : Int), ((numV (strB x5.2) : Nat) : Int)⟩) sI hgrowN hownN rfl hatN
  have hA := h1'.tn (qA.tn [] base) (by simp)
  have hRr : v.ownBlock ≠ some R := by obtain ⟨v, k, _⟩ := hA; exact far_own k hown (by decide)
  have h9 := rd_grown hgrowN hA hRr
  have hRG : R ≠ gW := fun e => by
   obtain ⟨v, k, _⟩ := h9
   rw [e, oG9] at k
   injection k with k
   injection k with _ k
   exact absurd k (by decide)
  have hSG : S ≠ gW := fun e => by
   have k := oS9
   rw [e, oG9] at k
   injection k with k
   injection k with _ k
   exact absurd k (by decide)
  have oth : ∀ i, i ≠ gW → (wz.setCell ⟨gW, ws0.length * 5 + 4, none⟩ (.slice (some ⟨gN, 0, none⟩) (r.l.length + 1) cN)).heap[i]? = wz.heap[i]? := fun i hi => Below.heap_setCell _ ⟨gW, ws0.length * 5 + 4, none⟩ _ i hi
  have mapG : ∀ {b : Nat}, (∃ es c, wz.heap[b]? = some (.map es c)) → b ≠ gW := fun {b} ⟨es, c, hb⟩ e => by
   rw [e, oG9] at hb
   cases hb
  have qK : ∀ {b : Nat} {ns : List ByteArray}, NmAt w b ns → NmAt (wz.setCell ⟨gW, ws0.length * 5 + 4, none⟩ (.slice (some ⟨gN, 0, none⟩) (r.l.length + 1) cN)) b ns := fun {b ns} hb => by
   have k1 := (hb.tn tL (by decide)).tn (qA.tn [] base) (by simp)
   have k2 := nm_grown hgrowN k1 (far_map k1.obj hown)
   exact k2.same (oth _ (mapG k2.obj))
  have qF : FmAt (wz.setCell ⟨gW, ws0.length * 5 + 4, none⟩ (.slice (some ⟨gN, 0, none⟩) (r.l.length + 1) cN)) bf fl := by
   have k1 := (hS.mf.tn tL (by decide)).tn (qA.tn [] base) (by simp)
   have k2 := fm_grown hgrowN k1 (far_map k1.obj hown)
   exact k2.same (oth _ (mapG k2.obj))
  have gG : base ≤ gW := (ownsRow_obj row8.ws (i := gW) rfl).1
  have tF : Tn kS base w (wz.setCell ⟨gW, ws0.length * 5 + 4, none⟩ (.slice (some ⟨gN, 0, none⟩) (r.l.length + 1) cN)) := Tn.set (p := ⟨gW, ws0.length * 5 + 4, none⟩) (Tn.appended ((tL.mono (by decide) (Nat.le_refl _)).trans (qA.tn kS base)) hown hgrowN (Nat.le_refl _) (by decide)) oG9 (by decide) gG _
  exact ⟨rfl, _, RdAt.same h9 (oth R hRG), ⟨(oth S hSG).trans oS9, rowz, qK hS.mw, qK hS.mt, qF, hS.gS, hS.gw, hS.gt, hS.gf, hS.n1, hS.n2, hS.n3⟩, tF⟩
end Go.Proofs.YtglniapfnhedoaaGreatDoor
namespace Go.Proofs.YtglniapfnhedoaaGreatDoor
open Go.RowKit
set_option linter.unusedVariables false
set_option maxRecDepth 100000 in
set_option maxHeartbeats 1600000 in
theorem addSecBoxTip_any (Wb w : World) (base R S bw bt bf gW cap : Nat) (wv tv fv v : Value) (head : Int) (ws0 ws ts : List Wr) (r : Wr) (fs : List Fl) (nw nt : List ByteArray) (fl : List Fl) (ss tt ss0 : List Value) (x1 x2 x3 x4 x5 : Wd) (hb : Wb.heap.size ≤ base) (hB : B Wb w) (hbw : base ≤ w.heap.size) (hR : base ≤ R)
  (h : RdAt Wb w R [x1, x2, x3, x4, x5] 0 0) (hS : StAt w base S bw bt bf wv (.slice (some ⟨gW, 0, none⟩) (ws0.length + 1) cap) fv (.pointer (some ⟨gW, ws0.length * 5 + 4, none⟩)) head ⟨ws, ws0 ++ [r], fs⟩ nw nt fl ss (ss0 ++ [v])) (hl : r.l.length < 100000) :
  Calls Tryz.prog 67 #[.pointer (some ⟨S, 0, none⟩), .bool false, .pointer (some ⟨R, 0, none⟩)] w fun r' w' => r' = .returned (.tuple #[]) ∧
   ∃ v', RdAt Wb w' R [] (fas [x1, x2, x3, x4, x5] (0, 0)).1 (fas [x1, x2, x3, x4, x5] (0, 0)).2 ∧ StAt w' base S bw bt bf wv (.slice (some ⟨gW, 0, none⟩) (ws0.length + 1) cap) fv (.pointer (some ⟨gW, ws0.length * 5 + 4, none⟩)) head ⟨ws, ws0 ++ [moreR r ⟨false, ((numV (strB x1.2) : Nat) : Int), ((numV (strB x2.2) : Nat) : Int), ((numV (strB x3.2) : Nat) : Int), ((numV (strB x4.2) : Nat) : Int), ((numV (strB x5.2) : Nat) : Int)⟩], fs⟩ nw nt fl ss (ss0 ++ [v']) ∧ Tn kS base w w' := by
 obtain ⟨i0, hi0, hz0, hz1, hz2⟩ := info_of secInfo9
 have c0 := size9_any Wb w base R x1 [x2, x3, x4, x5] 0 0 hb hB hR h
 have nv : ∀ x : Wd, I64 ((numV (strB x.2) : Nat) : Int) := fun x => by
  unfold I64
  cases ho : numOk (strB x.2)
  ·rw [(num_no (fun h => by have := numOk_iff.2 h; rw [ho] at this; cases this)).2]; omega
  ·rw [(num_yes (numOk_iff.1 ho)).2]
   have := (numOk_iff.1 ho).2.2.2
   omega
 go_enter Tryz.func67, Tryz.ntmps67
 go_wp2_with fail
 refine (Calls.mono c0 ?_)
 rintro _ w1 ⟨rfl, h1, t1⟩
 clear c0
 have c1 := size9_any Wb w1 base R x2 [x3, x4, x5] _ _ hb (t1.toB hB hb) hR h1
 go_wp2_with fail
 refine (Calls.mono c1 ?_)
 rintro _ w2 ⟨rfl, h2, t2⟩
 clear c1
 have qB : B w2 (w2.alloc (.cells #[.bool false, .int .i64 ((numV (strB x1.2) : Nat) : Int), .int .i64 ((numV (strB x2.2) : Nat) : Int), .int .i64 0, .int .i64 0, .int .i64 0] 37)) := (B.refl w2).alloc _ _
 have oL := obj_new w2 (.cells #[.bool false, .int .i64 ((numV (strB x1.2) : Nat) : Int), .int .i64 ((numV (strB x2.2) : Nat) : Int), .int .i64 0, .int .i64 0, .int .i64 0] 37)
 have tL : Tn kR base w (w2.alloc (.cells #[.bool false, .int .i64 ((numV (strB x1.2) : Nat) : Int), .int .i64 ((numV (strB x2.2) : Nat) : Int), .int .i64 0, .int .i64 0, .int .i64 0] 37)) := (t1.trans t2).alloc _ _
 have h1' := h2.tn (qB.tn [] base) (by simp)
 have hLge := (t1.trans t2).size
 have hLn : ∀ (b : World), Tn kR base w b → ∀ k v, Tn kR base w (b.setCell ⟨w2.heap.size, k, none⟩ v) := fun b hb k v => hb.setNew (p := ⟨w2.heap.size, k, none⟩) (t1.trans t2).size v
 go_wp2_with fail
 generalize w2.alloc (.cells #[.bool false, .int .i64 ((numV (strB x1.2) : Nat) : Int), .int .i64 ((numV (strB x2.2) : Nat) : Int), .int .i64 0, .int .i64 0, .int .i64 0] 37) = w3 at *
 generalize w2.heap.size = L at *
 clear h1 h2 t1 t2 qB
 have hRL : R ≠ L := fun e => by
  obtain ⟨v, k, _⟩ := h1'
  rw [e, oL] at k
  injection k with k
  injection k with _ k
  exact absurd k (by decide)
 have c1 := size9_any Wb w3 base R x3 _ _ _ hb (tL.toB hB hb) hR h1'
 go_wp2_with fail
 refine (Calls.mono c1 ?_)
 rintro _ w4 ⟨rfl, h3, t3⟩
 clear c1
 have oL3 := t3.objc oL (by decide)
 have d0 : w4.cell? ⟨L, 3, none⟩ = some (.int .i64 0) := obj_cell oL3 3
 have df := obj_free oL3 3
 go_wp2_with fail
 replace oL := obj_set oL3 3 (.int .i64 ((numV (strB x3.2) : Nat) : Int))
 replace tL := hLn _ (tL.trans t3) 3 (.int .i64 ((numV (strB x3.2) : Nat) : Int))
 replace h1' := RdAt.same h3 (Below.heap_setCell w4 ⟨L, 3, none⟩ (.int .i64 ((numV (strB x3.2) : Nat) : Int)) R hRL)
 generalize w4.setCell ⟨L, 3, none⟩ (.int .i64 ((numV (strB x3.2) : Nat) : Int)) = w5 at *
 clear t3 h3 oL3 d0 df
 have c1 := size9_any Wb w5 base R x4 _ _ _ hb (tL.toB hB hb) hR h1'
 go_wp2_with fail
 refine (Calls.mono c1 ?_)
 rintro _ w6 ⟨rfl, h3, t3⟩
 clear c1
 have oL3 := t3.objc oL (by decide)
 have d0 : w6.cell? ⟨L, 4, none⟩ = some (.int .i64 0) := obj_cell oL3 4
 have df := obj_free oL3 4
 go_wp2_with fail
 replace oL := obj_set oL3 4 (.int .i64 ((numV (strB x4.2) : Nat) : Int))
 replace tL := hLn _ (tL.trans t3) 4 (.int .i64 ((numV (strB x4.2) : Nat) : Int))
 replace h1' := RdAt.same h3 (Below.heap_setCell w6 ⟨L, 4, none⟩ (.int .i64 ((numV (strB x4.2) : Nat) : Int)) R hRL)
 generalize w6.setCell ⟨L, 4, none⟩ (.int .i64 ((numV (strB x4.2) : Nat) : Int)) = w7 at *
 clear t3 h3 oL3 d0 df
 have c1 := size9_any Wb w7 base R x5 _ _ _ hb (tL.toB hB hb) hR h1'
 go_wp2_with fail
 refine (Calls.mono c1 ?_)
 rintro _ w8 ⟨rfl, h3, t3⟩
 clear c1
 have oL3 := t3.objc oL (by decide)
 have d0 : w8.cell? ⟨L, 5, none⟩ = some (.int .i64 0) := obj_cell oL3 5
 have df := obj_free oL3 5
 go_wp2_with fail
 replace oL := obj_set oL3 5 (.int .i64 ((numV (strB x5.2) : Nat) : Int))
 replace tL := hLn _ (tL.trans t3) 5 (.int .i64 ((numV (strB x5.2) : Nat) : Int))
 replace h1' := RdAt.same h3 (Below.heap_setCell w8 ⟨L, 5, none⟩ (.int .i64 ((numV (strB x5.2) : Nat) : Int)) R hRL)
 generalize w8.setCell ⟨L, 5, none⟩ (.int .i64 ((numV (strB x5.2) : Nat) : Int)) = w9 at *
 clear t3 h3 oL3 d0 df
 go_wp2_with fail
 have oS8 := tL.objc hS.obj (by decide)
 have row8 := hS.rows.tn tL (by decide) (by decide) (by decide) (by decide)
 obtain ⟨m, hm⟩ : ∃ m, ws0.length = m := ⟨_, rfl⟩
 have hsl : ss0.length = ws0.length := by have := hS.rows.tl; simpa using this
 have qA : B w9 (w9.drew.alloc (.cells #[.bool false, .int .i64 ((numV (strB x1.2) : Nat) : Int), .int .i64 ((numV (strB x2.2) : Nat) : Int), .int .i64 ((numV (strB x3.2) : Nat) : Int), .int .i64 ((numV (strB x4.2) : Nat) : Int), .int .i64 ((numV (strB x5.2) : Nat) : Int)] 37)) := (B.refl w9).drew.alloc _ _
 have hown := ownsRow_keepB (row8.th ws0.length r v (by simp) (by rw [← hsl]; simp)) qA
 have hbase : base ≤ (w9.drew.alloc (.cells #[.bool false, .int .i64 ((numV (strB x1.2) : Nat) : Int), .int .i64 ((numV (strB x2.2) : Nat) : Int), .int .i64 ((numV (strB x3.2) : Nat) : Int), .int .i64 ((numV (strB x4.2) : Nat) : Int), .int .i64 ((numV (strB x5.2) : Nat) : Int)] 37)).heap.size := Nat.le_trans hbw (Nat.le_trans tL.size qA.below.size)
 obtain ⟨_, curG, oG⟩ := ownsRow_obj row8.ts (i := gW) rfl
 have hGc : curG[m * 5 + 4]? = some v := by
  have h1 := row8.ts.cells (g := gW) rfl (m * 5 + 4) v (by rw [← hm, flatR_get _ _ ws0.length 4 r v (by simp) (by rw [← hsl]; simp) (by omega)]; rfl)
  rw [add0, obj_cell oG] at h1
  exact h1
 have s6 : w9.drew.cell? ⟨S, 6, none⟩ = some (.pointer (some ⟨gW, m * 5 + 4, none⟩)) := by rw [← hm]; exact obj_cell (w := w9.drew) oS8 6
 have sv : w9.drew.cell? ⟨gW, m * 5 + 4, none⟩ = some v := (obj_cell (w := w9.drew) oG _).trans hGc
 have l0 : w9.drew.cell? ⟨L, 0, none⟩ = some (.bool false) := obj_cell (w := w9.drew) oL 0
 have l1 : w9.drew.cell? ⟨L, 1, none⟩ = some (.int .i64 ((numV (strB x1.2) : Nat) : Int)) := obj_cell (w := w9.drew) oL 1
 have l2 : w9.drew.cell? ⟨L, 2, none⟩ = some (.int .i64 ((numV (strB x2.2) : Nat) : Int)) := obj_cell (w := w9.drew) oL 2
 have l3 : w9.drew.cell? ⟨L, 3, none⟩ = some (.int .i64 ((numV (strB x3.2) : Nat) : Int)) := obj_cell (w := w9.drew) oL 3
 have l4 : w9.drew.cell? ⟨L, 4, none⟩ = some (.int .i64 ((numV (strB x4.2) : Nat) : Int)) := obj_cell (w := w9.drew) oL 4
 have l5 : w9.drew.cell? ⟨L, 5, none⟩ = some (.int .i64 ((numV (strB x5.2) : Nat) : Int)) := obj_cell (w := w9.drew) oL 5
 have rL : v.ownBlock ≠ some L := fun e => by
  have := ((hS.rows.th ws0.length r v (by simp) (by rw [← hsl]; simp)).lt L e).2
  omega
 have hfact : ∀ wz : World, wz.heap[S]? = w9.heap[S]? → wz.cell? ⟨gW, m * 5 + 4, none⟩ = some v → wz.heap[L]? = w9.heap[L]? → wz.cell? ⟨S, 6, none⟩ = some (.pointer (some ⟨gW, m * 5 + 4, none⟩)) ∧ wz.cell? ⟨gW, m * 5 + 4, none⟩ = some v ∧ wz.cell? ⟨L, 0, none⟩ = some (.bool false) ∧ wz.cell? ⟨L, 1, none⟩ = some (.int .i64 ((numV (strB x1.2) : Nat) : Int)) ∧ wz.cell? ⟨L, 2, none⟩ = some (.int .i64 ((numV (strB x2.2) : Nat) : Int)) ∧ wz.cell? ⟨L, 3, none⟩ = some (.int .i64 ((numV (strB x3.2) : Nat) : Int)) ∧ wz.cell? ⟨L, 4, none⟩ = some (.int .i64 ((numV (strB x4.2) : Nat) : Int)) ∧ wz.cell? ⟨L, 5, none⟩ = some (.int .i64 ((numV (strB x5.2) : Nat) : Int)) :=
  fun wz hs hv hl => ⟨(obj_cell (hs.trans oS8) 6).trans (by rw [← hm]; rfl), hv, obj_cell (hl.trans oL) 0, obj_cell (hl.trans oL) 1, obj_cell (hl.trans oL) 2, obj_cell (hl.trans oL) 3, obj_cell (hl.trans oL) 4, obj_cell (hl.trans oL) 5⟩
 have HX := Lib.hid (And.intro tL (And.intro h1' (And.intro hLn row8)))
 clear tL h1' hLn row8
 refine wp_region_noPanic ?_
 refine wp_region_gate (S := fun w' => w'.cell? ⟨S, 6, none⟩ = some (.pointer (some ⟨gW, m * 5 + 4, none⟩)) ∧ w'.cell? ⟨gW, m * 5 + 4, none⟩ = some v ∧ w'.cell? ⟨L, 0, none⟩ = some (.bool false) ∧ w'.cell? ⟨L, 1, none⟩ = some (.int .i64 ((numV (strB x1.2) : Nat) : Int)) ∧ w'.cell? ⟨L, 2, none⟩ = some (.int .i64 ((numV (strB x2.2) : Nat) : Int)) ∧ w'.cell? ⟨L, 3, none⟩ = some (.int .i64 ((numV (strB x3.2) : Nat) : Int)) ∧ w'.cell? ⟨L, 4, none⟩ = some (.int .i64 ((numV (strB x4.2) : Nat) : Int)) ∧ w'.cell? ⟨L, 5, none⟩ = some (.int .i64 ((numV (strB x5.2) : Nat) : Int))) 14 [(0, 3), (1, 3), (2, 3), (3, 0), (4, 3), (5, 3), (6, 3), (7, 0), (8, 3), (9, 0), (10, 0), (11, 2), (12, 2), (13, 3), (14, 4)] [0, 1, 2, 4, 0, 16, 32, 64, 128, 256, 0, 1024, 2560, 8191, 16383] [0, 1, 2, 4, 0, 16, 32, 64, 128, 256, 0, 1024, 2560, 8, 12288] [0, 0, 0, 24584, 0, 0, 0, 29568, 0, 29184, 31744, 0, 0, 0, 0] (by kernel_rfl) (by kernel_rfl) (fun _ _ _ _ _ h => h) ?_ (fun hH => ?_)
 ·exact ⟨s6, sv, l0, l1, l2, l3, l4, l5⟩
 refine wpSeqG_free (d := 26) (v := ?_) rfl rfl (by kernel_rfl) (fun w => ?_) ?_
 rotate_left
 ·go_simp <;> with_reducible rfl
 dsimp only [sZ, sS]
 refine wpSeqG_free (d := 27) (v := ?_) rfl rfl (by kernel_rfl) (fun w => ?_) ?_
 rotate_left
 ·go_simp <;> with_reducible rfl
 dsimp only [sZ, sS]
 refine wpSeqG_free (d := 28) (v := ?_) rfl rfl (by kernel_rfl) (fun w => ?_) ?_
 rotate_left
 ·go_simp <;> with_reducible rfl
 dsimp only [sZ, sS]
 refine wpSeqG_take (d := 29) (v := ?_) rfl rfl (by kernel_rfl) (fun w hS => ?_) ?_
 rotate_left
 ·go_simp <;> with_reducible rfl
 dsimp only [sZ, sS]
 refine wpSeqG_free (d := 30) (v := ?_) rfl rfl (by kernel_rfl) (fun w => ?_) ?_
 rotate_left
 ·go_simp <;> with_reducible rfl
 dsimp only [sZ, sS]
 refine wpSeqG_free (d := 31) (v := ?_) rfl rfl (by kernel_rfl) (fun w => ?_) ?_
 rotate_left
 ·go_simp <;> with_reducible rfl
 dsimp only [sZ, sS]
 refine wpSeqG_free (d := 32) (v := ?_) rfl rfl (by kernel_rfl) (fun w => ?_) ?_
 rotate_left
 ·go_simp <;> with_reducible rfl
 dsimp only [sZ, sS]
 refine wpSeqG_take (d := 33) (v := ?_) rfl rfl (by kernel_rfl) (fun w hS => ?_) ?_
 rotate_left
 ·go_simp <;> with_reducible rfl
 dsimp only [sZ, sS]
 refine wpSeqG_free (d := 34) (v := ?_) rfl rfl (by kernel_rfl) (fun w => ?_) ?_
 rotate_left
 ·go_simp <;> with_reducible rfl
 dsimp only [sZ, sS]
 refine wpSeqG_take (d := 35) (v := ?_) rfl rfl (by kernel_rfl) (fun w hS => ?_) ?_
 rotate_left
 ·go_simp <;> with_reducible rfl
 dsimp only [sZ, sS]
 refine wpSeqG_take (d := 36) (v := ?_) rfl rfl (by kernel_rfl) (fun w hS => ?_) ?_
 rotate_left
 ·go_simp <;> with_reducible rfl
 dsimp only [sZ, sS]
 refine wpSeqG_call rfl (by kernel_rfl) (fun K hK => ?_)
 go_simp
 refine hK.out _ _ ?_ (fun hH => ?_)
 ·first | exact ⟨((B.refl _).alloc _ _).keep hH.1, ((B.refl _).alloc _ _).keep hH.2.1, ((B.refl _).alloc _ _).keep hH.2.2.1, ((B.refl _).alloc _ _).keep hH.2.2.2.1, ((B.refl _).alloc _ _).keep hH.2.2.2.2.1, ((B.refl _).alloc _ _).keep hH.2.2.2.2.2.1, ((B.refl _).alloc _ _).keep hH.2.2.2.2.2.2.1, ((B.refl _).alloc _ _).keep hH.2.2.2.2.2.2.2⟩ | exact hS9
 clear hK
 refine wpSeqG_call rfl (by kernel_rfl) (fun K hK => ?_)
 refine wp_append_lies _ _ _ 31 rfl base 37 i0 (.agg #[.bool false, .int .i64 0, .int .i64 0, .int .i64 0, .int .i64 0, .int .i64 0]) 6 48 (by kernel_rfl) hi0 hz0 hz1 hz2 rfl (by omega) _ _ _ rfl hown ⟨w9.heap.size, 0, none⟩ 1 1 [.bool false, .int .i64 ((numV (strB x1.2) : Nat) : Int), .int .i64 ((numV (strB x2.2) : Nat) : Int), .int .i64 ((numV (strB x3.2) : Nat) : Int), .int .i64 ((numV (strB x4.2) : Nat) : Int), .int .i64 ((numV (strB x5.2) : Nat) : Int)] rfl rfl (news_plain rfl) (by intro u hu; simp only [List.mem_cons, List.not_mem_nil, or_false] at hu; rcases hu with rfl | rfl | rfl | rfl | rfl | rfl <;> rfl) (by omega) (by unfold maxLen; omega) (by omega) hbase _ rfl ?_
 intro gN cN wz hownN hgrowN hatN hltN
 have oG9 := obj_grown hgrowN (qA.obj oG) (far_own (qA.obj oG) hown (by decide))
 have y0 : wz.cell? ⟨gW, m * 5 + 4, none⟩ = some v := (obj_cell oG9 _).trans hGc
 have y1 := obj_free oG9 (m * 5 + 4)
 have oL9 := obj_grown hgrowN (qA.obj oL) rL
 have oS9 := obj_grown hgrowN (qA.obj oS8) (far_own (qA.obj oS8) hown (by decide))
 have hS9 := hfact wz (oS9.trans oS8.symm) y0 (oL9.trans oL.symm)
 clear hfact
 try simp only [Act.put, List.setIfInBounds_toArray, List.set_cons_zero, List.set_cons_succ]
 refine hK.out _ _ ?_ (fun hH => ?_)
 ·first | exact ⟨((B.refl _).alloc _ _).keep hH.1, ((B.refl _).alloc _ _).keep hH.2.1, ((B.refl _).alloc _ _).keep hH.2.2.1, ((B.refl _).alloc _ _).keep hH.2.2.2.1, ((B.refl _).alloc _ _).keep hH.2.2.2.2.1, ((B.refl _).alloc _ _).keep hH.2.2.2.2.2.1, ((B.refl _).alloc _ _).keep hH.2.2.2.2.2.2.1, ((B.refl _).alloc _ _).keep hH.2.2.2.2.2.2.2⟩ | exact hS9
 clear hK
 refine wpSeqG_free (d := 39) (v := ?_) rfl rfl (by kernel_rfl) (fun w => ?_) ?_
 rotate_left
 ·go_simp <;> with_reducible rfl
 dsimp only [sZ, sS]
 refine wpSeqG_gate rfl (by kernel_rfl) (fun K hK => ?_)
 go_simp
 refine hK.out _ _ ?_
 clear hK
 refine wpSeqG_done ?_
 refine NoPanic.normal ?_
 all_goals
  first | go_end0 | refine bodyPost_ret (results_none rfl _ _ _) rfl ?_
  subst hm
  obtain ⟨tL, h1', hLn, row8⟩ := HX.out
  have rowA := row8.b qA
  have sI : Sec.I ⟨false, ((numV (strB x1.2) : Nat) : Int), ((numV (strB x2.2) : Nat) : Int), ((numV (strB x3.2) : Nat) : Int), ((numV (strB x4.2) : Nat) : Int), ((numV (strB x5.2) : Nat) : Int)⟩ := by
   exact ⟨nv _, nv _, nv _, nv _, nv _⟩
  have rowz := rowA.addST (s := ⟨false, ((numV (strB x1.2) : Nat) : Int), ((numV (strB x2.2) : Nat) : Int), ((numV (strB x3.2) : Nat) : Int), ((numV (strB x4.2) : Nat) : Int), ((numV (strB x5.2) : Nat) : Int)⟩) sI hgrowN hownN rfl hatN
  have hA := h1'.tn (qA.tn [] base) (by simp)
  have hRr : v.ownBlock ≠ some R := by obtain ⟨v, k, _⟩ := hA; exact far_own k hown (by decide)
  have h9 := rd_grown hgrowN hA hRr
  have hRG : R ≠ gW := fun e => by
   obtain ⟨v, k, _⟩ := h9
   rw [e, oG9] at k
   injection k with k
   injection k with _ k
   exact absurd k (by decide)
  have hSG : S ≠ gW := fun e => by
   have k := oS9
   rw [e, oG9] at k
   injection k with k
   injection k with _ k
   exact absurd k (by decide)
  have oth : ∀ i, i ≠ gW → (wz.setCell ⟨gW, ws0.length * 5 + 4, none⟩ (.slice (some ⟨gN, 0, none⟩) (r.l.length + 1) cN)).heap[i]? = wz.heap[i]? := fun i hi => Below.heap_setCell _ ⟨gW, ws0.length * 5 + 4, none⟩ _ i hi
  have mapG : ∀ {b : Nat}, (∃ es c, wz.heap[b]? = some (.map es c)) → b ≠ gW := fun {b} ⟨es, c, hb⟩ e => by
   rw [e, oG9] at hb
   cases hb
  have qK : ∀ {b : Nat} {ns : List ByteArray}, NmAt w b ns → NmAt (wz.setCell ⟨gW, ws0.length * 5 + 4, none⟩ (.slice (some ⟨gN, 0, none⟩) (r.l.length + 1) cN)) b ns := fun {b ns} hb => by
   have k1 := (hb.tn tL (by decide)).tn (qA.tn [] base) (by simp)
   have k2 := nm_grown hgrowN k1 (far_map k1.obj hown)
   exact k2.same (oth _ (mapG k2.obj))
  have qF : FmAt (wz.setCell ⟨gW, ws0.length * 5 + 4, none⟩ (.slice (some ⟨gN, 0, none⟩) (r.l.length + 1) cN)) bf fl := by
   have k1 := (hS.mf.tn tL (by decide)).tn (qA.tn [] base) (by simp)
   have k2 := fm_grown hgrowN k1 (far_map k1.obj hown)
   exact k2.same (oth _ (mapG k2.obj))
  have gG : base ≤ gW := (ownsRow_obj row8.ts (i := gW) rfl).1
  have tF : Tn kS base w (wz.setCell ⟨gW, ws0.length * 5 + 4, none⟩ (.slice (some ⟨gN, 0, none⟩) (r.l.length + 1) cN)) := Tn.set (p := ⟨gW, ws0.length * 5 + 4, none⟩) (Tn.appended ((tL.mono (by decide) (Nat.le_refl _)).trans (qA.tn kS base)) hown hgrowN (Nat.le_refl _) (by decide)) oG9 (by decide) gG _
  exact ⟨rfl, _, RdAt.same h9 (oth R hRG), ⟨(oth S hSG).trans oS9, rowz, qK hS.mw, qK hS.mt, qF, hS.gS, hS.gw, hS.gt, hS.gf, hS.n1, hS.n2, hS.n3⟩, tF⟩
end Go.Proofs.YtglniapfnhedoaaGreatDoor
namespace Go.Proofs.YtglniapfnhedoaaGreatDoor
open Go.RowKit
set_option linter.unusedVariables false
theorem strB_toList (l : List UInt8) : (strB l).toList = l := by rw [Go.Lib.toList_data]; rfl
def OpenAt (d : Dk) (wv tv pv : Value) (o : Nat) : Prop :=
 (o = 0 ∧ pv = .pointer none) ∨
 (o = 1 ∧ ∃ (ws0 : List Wr) (r : Wr) (g cap : Nat), d.ws = ws0 ++ [r] ∧ wv = .slice (some ⟨g, 0, none⟩) (ws0.length + 1) cap ∧ pv = .pointer (some ⟨g, ws0.length * 5 + 4, none⟩)) ∨
 (o = 2 ∧ ∃ (ws0 : List Wr) (r : Wr) (g cap : Nat), d.ts = ws0 ++ [r] ∧ tv = .slice (some ⟨g, 0, none⟩) (ws0.length + 1) cap ∧ pv = .pointer (some ⟨g, ws0.length * 5 + 4, none⟩))
def LnSt (w : World) (base S bw bt bf : Nat) (d : Dk) (o f : Nat) : Prop :=
 ∃ wv tv fv pv head ss tt, StAt w base S bw bt bf wv tv fv pv head d (d.ws.map (·.n)) (d.ts.map (·.n)) d.fs ss tt ∧ OpenAt d wv tv pv o ∧ (o ≠ 0 → head = (f : Int))
structure DkN (d : Dk) (n : Nat) : Prop where
 ok : okW d.ws
 w8 : d.ws.length ≤ 8
 t4 : d.ts.length ≤ 4
 fn : d.fs.length ≤ n
 wn : ∀ r ∈ d.ws, r.l.length ≤ n
 tn : ∀ r ∈ d.ts, r.l.length ≤ n
def stepD (l : List Wd) (d : Dk) (o f : Nat) : Except (Nat × Nat) (Dk × Nat × Nat) :=
 match l with
 | [] => .ok (d, o, f)
 | k :: x =>
  if k.2 = kRound ∨ k.2 = kBox then
   if o = 0 then .error (k.1, 24)
   else match secW (k :: x) with
    | .error e => .error e
    | .ok s => .ok (d.add o s, o, f)
  else if wholeD d o = false then .error (f, 23)
  else if k.2 = kWare then
   match recW d.ws 8 8 12 1000000 (k :: x) with
   | .error e => .error e
   | .ok w => .ok ({ d with ws := d.ws ++ [w] }, 1, k.1)
  else if k.2 = kTip then
   match recW d.ts 4 20000000 60000 10000 (k :: x) with
   | .error e => .error e
   | .ok t => .ok ({ d with ts := d.ts ++ [t] }, 2, k.1)
  else
   match fillW d (k :: x) with
   | .error e => .error e
   | .ok v => .ok ({ d with fs := d.fs ++ [v] }, 0, k.1)
def isDeckW (k : List UInt8) : Bool := decide (k = kRound) || decide (k = kBox) || decide (k = kWare) || decide (k = kTip) || decide (k = kFill)
theorem parseD_step (k : Wd) (x : List Wd) (L : List (List Wd)) (d : Dk) (o f : Nat) (hk : isDeckW k.2 = true) : parseD ((k :: x) :: L) d o f = match stepD (k :: x) d o f with
  | .error e => (dk0, [], e.1, e.2)
  | .ok (d', o', f') => parseD L d' o' f' := by
 unfold isDeckW at hk
 rw [parseD, stepD]
 by_cases h1 : k.2 = kRound ∨ k.2 = kBox
 ·simp only [h1, if_true]
  by_cases h2 : o = 0
  ·simp only [h2, if_true]
  ·simp only [h2, if_false]
   cases secW (k :: x) <;> rfl
 ·simp only [h1, if_false]
  cases h2 : wholeD d o
  ·simp only [if_true]
  ·simp only [Bool.true_eq_false, if_false]
   by_cases h3 : k.2 = kWare
   ·simp only [h3, if_true]
    cases recW d.ws 8 8 12 1000000 (k :: x) <;> rfl
   ·simp only [h3, if_false]
    by_cases h4 : k.2 = kTip
    ·simp only [h4, if_true]
     cases recW d.ts 4 20000000 60000 10000 (k :: x) <;> rfl
    ·simp only [h4, if_false]
     have h5 : k.2 = kFill := by
      simp only [not_or] at h1
      simpa [h1.1, h1.2, h3, h4] using hk
     simp only [h5, if_true]
     cases fillW d (k :: x) <;> rfl
theorem lastL_snoc : ∀ (ws : List Wr) (r : Wr), lastL (ws ++ [r]) = r.l
 | [], _ => rfl
 | [_], _ => rfl
 | x :: y :: ws, r => by
  show lastL ((y :: ws) ++ [r]) = _
  exact lastL_snoc (y :: ws) r
theorem row_cell {w : World} {base : Nat} {e : TypeId} {ws0 : List Wr} {r : Wr} {ss : List Value} {g cap : Nat} (h : w.ownsRow base e 5 (.slice (some ⟨g, 0, none⟩) (ws0.length + 1) cap) (ws0 ++ [r]).length (flatR (ws0 ++ [r]) ss)) (hs : ss.length = (ws0 ++ [r]).length) :
  ∃ v, ss[ws0.length]? = some v ∧ w.cell? ⟨g, ws0.length * 5 + 4, none⟩ = some v := by
 have hl : ws0.length < ss.length := by rw [hs]; simp
 refine ⟨_, List.getElem?_eq_getElem hl, ?_⟩
 have := h.cells (g := g) rfl (ws0.length * 5 + 4) ss[ws0.length] (by rw [flatR_get _ _ ws0.length 4 r _ (by simp) (List.getElem?_eq_getElem hl) (by omega)]; rfl)
 rwa [add0] at this
theorem own_ne {w : World} {b2 : Nat} {e2 t : TypeId} {s2 n2 n g cap : Nat} {x2 : List Value} {i : Nat} {cs : Array Value} (ho : w.heap[i]? = some (.cells cs t (0, 0))) (h2 : w.ownsRow b2 e2 s2 (.slice (some ⟨g, 0, none⟩) n cap) n2 x2) (he : t ≠ e2) : g ≠ i := fun e =>
 far_own ho h2 he (by rw [← e]; rfl)
section
variable {w : World} {base S bw bt bf : Nat} {wv tv fv pv : Value} {head : Int} {d : Dk} {nw nt : List ByteArray} {fl : List Fl} {ss tt : List Value} {o : Nat}
theorem open_piece (hS : StAt w base S bw bt bf wv tv fv pv head d nw nt fl ss tt) (hO : OpenAt d wv tv pv o) (ho : o ≠ 0) : ∃ g k v l, pv = .pointer (some ⟨g, k, none⟩) ∧ w.cell? ⟨g, k, none⟩ = some v ∧ IsSecs w v l ∧ g ≠ S ∧ wholeD d o = rightS l := by
 rcases hO with ⟨h, _⟩ | ⟨rfl, ws0, r, g, cap, hd, rfl, rfl⟩ | ⟨rfl, ws0, r, g, cap, hd, rfl, rfl⟩
 ·exact absurd h ho
 ·have hw := hS.rows.ws
  rw [hd] at hw
  obtain ⟨v, h1, h2⟩ := row_cell hw (by rw [hS.rows.sl, hd])
  refine ⟨g, _, v, r.l, rfl, h2, ?_, own_ne hS.obj hw (by decide), ?_⟩
  ·exact isSecs_own (hS.rows.sh ws0.length r v (by rw [hd]; simp) h1) (hS.rows.wi r (by rw [hd]; simp))
  ·unfold wholeD
   rw [if_pos rfl, hd, lastL_snoc]
 ·have hw := hS.rows.ts
  rw [hd] at hw
  obtain ⟨v, h1, h2⟩ := row_cell hw (by rw [hS.rows.tl, hd])
  refine ⟨g, _, v, r.l, rfl, h2, ?_, own_ne hS.obj hw (by decide), ?_⟩
  ·exact isSecs_own (hS.rows.th ws0.length r v (by rw [hd]; simp) h1) (hS.rows.ti r (by rw [hd]; simp))
  ·unfold wholeD
   rw [if_neg (by decide), if_pos rfl, hd, lastL_snoc]
theorem fin_yes (hS : StAt w base S bw bt bf wv tv fv pv head d nw nt fl ss tt) (hO : OpenAt d wv tv pv o) (hw : wholeD d o = true) : ∀ w', B w w' → Calls Tryz.prog 46 #[.pointer (some ⟨S, 0, none⟩)] w' fun r w'' => r = .returned (.agg #[.int .i64 0, .int .i64 0]) ∧ StAt w'' base S bw bt bf wv tv fv (.pointer none) head d nw nt fl ss tt ∧ Tn kS base w' w'' := fun w' q => by
 by_cases ho : o = 0
 ·have hp : pv = .pointer none := by
   rcases hO with ⟨_, h⟩ | ⟨h, _⟩ | ⟨h, _⟩
   ·exact h
   ·omega
   ·omega
  subst hp
  exact finish0_any w' base S bw bt bf wv tv fv head d nw nt fl ss tt (hS.b q)
 ·obtain ⟨g, k, v, l, rfl, hv, hl, hg, he⟩ := open_piece hS hO ho
  exact finish_yes w' base S bw bt bf g k wv tv fv v l head d nw nt fl ss tt (hS.b q) (q.keep hv) (hl.keepB q) hg (he.symm.trans hw)
theorem fin_no (hS : StAt w base S bw bt bf wv tv fv pv head d nw nt fl ss tt) (hO : OpenAt d wv tv pv o) (hw : wholeD d o = false) : ∀ w', B w w' → Calls Tryz.prog 46 #[.pointer (some ⟨S, 0, none⟩)] w' fun r w'' => r = .returned (.agg #[.int .i64 head, .int .i64 23]) ∧ S < w''.heap.size ∧ Tn kS base w' w'' := fun w' q => by
 by_cases ho : o = 0
 ·subst ho
  cases hw
 ·obtain ⟨g, k, v, l, rfl, hv, hl, hg, he⟩ := open_piece hS hO ho
  exact (finish_no w' base S bw bt bf g k wv tv fv v l head d nw nt fl ss tt (hS.b q) (q.keep hv) (hl.keepB q) hg (he.symm.trans hw)).mono fun r w'' h => ⟨h.1, Nat.lt_of_lt_of_le (obj_lt (hS.b q).obj) h.2.size, h.2⟩
theorem full_st (hS : StAt w base S bw bt bf wv tv fv pv head d nw nt fl ss tt) (s : ByteArray) : Calls Tryz.prog 63 #[.pointer (some ⟨S, 0, none⟩), .string s] w fun e w' => e = .returned (.bool (fullS s d.ws.length d.ts.length)) ∧ w = w' := by
 obtain ⟨ao, ac, h1⟩ := hS.rows.dk.ws.form
 obtain ⟨bo, bc, h2⟩ := hS.rows.dk.ts.form
 have := hS.obj
 subst h1 h2
 exact full_any w S s ao bo _ _ ac bc _ _ _ _ _ _ this
end
def LnPost (base S bw bt bf n : Nat) (res : Except (Nat × Nat) (Dk × Nat × Nat)) (w : World) (r : Ending) (w' : World) : Prop :=
 ∃ a e : Int, r = .returned (.agg #[.int .i64 a, .int .i64 e]) ∧ Tn kS base w w' ∧
  match res with
  | .error z => a = (z.1 : Int) ∧ e = (z.2 : Int) ∧ z.2 ≠ 0
  | .ok (d', o', f') => a = 0 ∧ e = 0 ∧ LnSt w' base S bw bt bf d' o' f' ∧ DkN d' (n + 1)
end Go.Proofs.YtglniapfnhedoaaGreatDoor
