/-
 Contracts and what they rest on.
-/
import Derived.Test.YtglniapfnhedoaaGreatDoorY17
namespace Go.Proofs.YtglniapfnhedoaaGreatDoor
open Go.RowKit
set_option linter.unusedVariables false
set_option maxRecDepth 100000 in
set_option maxHeartbeats 1600000 in
theorem addTip_any (Wb w : World) (base R S bw bt bf : Nat) (wv tv fv pv : Value) (head head' : Int) (d : Dk) (nw nt : List ByteArray) (fl : List Fl) (ss tt : List Value) (xn xa xb xc : Wd) (hb : Wb.heap.size ≤ base) (hB : B Wb w) (hbw : base ≤ w.heap.size) (hR : base ≤ R)
  (h : RdAt Wb w R [xn, xa, xb, xc] 0 0) (hS : StAt w base S bw bt bf wv tv fv pv head d nw nt fl ss tt) (hn : nt.length < 1000) (hd : d.ts.length < 1000) (hx : xn.2.length ≤ 65536) :
  Calls Tryz.prog 65 #[.pointer (some ⟨S, 0, none⟩), .int .i64 head', .pointer (some ⟨R, 0, none⟩)] w fun r w' => r = .returned (.tuple #[]) ∧
   ∃ g cap, RdAt Wb w' R [] (fa4 (nameS (strB xn.2) && !namedL nt (strB xn.2)) 25 xn 1 20000000 1 60000 0 10000 xa xb xc).1 (fa4 (nameS (strB xn.2) && !namedL nt (strB xn.2)) 25 xn 1 20000000 1 60000 0 10000 xa xb xc).2 ∧
    StAt w' base S bw bt bf wv (.slice (some ⟨g, 0, none⟩) (d.ts.length + 1) cap) fv (.pointer (some ⟨g, d.ts.length * 5 + 4, none⟩)) head' { d with ts := d.ts ++ [⟨strB xn.2, (numV (strB xa.2) : Nat), (numV (strB xb.2) : Nat), (numV (strB xc.2) : Nat), []⟩] } nw (addN nt (strB xn.2)) fl ss (tt ++ [.slice none 0 0]) ∧ Tn kS base w w' := by
 obtain ⟨i0, hi0, hz0, hz1, hz2⟩ := info_of tipInfo9
 have c0 := rname_any Wb w base R bt nt xn [xa, xb, xc] 0 0 hb hB hR h hS.mt hS.gt hn hx
 have s3 : w.cell? ⟨S, 4, none⟩ = some (.map (some bt)) := obj_cell hS.obj 4
 go_enter Tryz.func65, Tryz.ntmps65
 go_wp2_with fail
 refine (Calls.mono c0 ?_)
 rintro _ w1 ⟨rfl, h1, m1, t1, u1⟩
 clear c0
 have qB : B w1 (w1.alloc (.cells #[.string (strB xn.2), .int .i64 0, .int .i64 0, .int .i64 0, .slice none 0 0] 35)) := (B.refl w1).alloc _ _
 have oL := obj_new w1 (.cells #[.string (strB xn.2), .int .i64 0, .int .i64 0, .int .i64 0, .slice none 0 0] 35)
 have tL : Tn kRM base w (w1.alloc (.cells #[.string (strB xn.2), .int .i64 0, .int .i64 0, .int .i64 0, .slice none 0 0] 35)) := t1.alloc _ _
 have h1' := h1.tn (qB.tn [] base) (by simp)
 have m1' := m1.tn (qB.tn [] base) (by simp)
 have u1' := u1.trans (qB.tm bt)
 have hLn : ∀ (b : World), Tn kRM base w b → ∀ k v, Tn kRM base w (b.setCell ⟨w1.heap.size, k, none⟩ v) := fun b hb k v => hb.setNew (p := ⟨w1.heap.size, k, none⟩) t1.size v
 go_wp2_with fail
 generalize w1.alloc (.cells #[.string (strB xn.2), .int .i64 0, .int .i64 0, .int .i64 0, .slice none 0 0] 35) = w2 at *
 generalize w1.heap.size = L at *
 clear h1 m1 t1 u1 qB
 have hRL : R ≠ L := fun e => by
  obtain ⟨v, k, _⟩ := h1'
  rw [e, oL] at k
  injection k with k
  injection k with _ k
  exact absurd k (by decide)
 have c1 := number9_any Wb w2 base R xa _ _ _ 1 20000000 hb (tL.toB hB hb) hR h1'
 refine (Calls.mono c1 ?_)
 rintro _ w3 ⟨rfl, h3, t3⟩
 clear c1
 have oL3 := t3.objc oL (by decide)
 have d0 : w3.cell? ⟨L, 1, none⟩ = some (.int .i64 0) := obj_cell oL3 1
 have df := obj_free oL3 1
 go_wp2_with fail
 replace oL := obj_set oL3 1 (.int .i64 ((numV (strB xa.2) : Nat) : Int))
 replace tL := hLn _ (tL.trans (t3.mono (by decide) (Nat.le_refl _))) 1 (.int .i64 ((numV (strB xa.2) : Nat) : Int))
 replace u1' := u1'.trans ((t3.tm (by decide) bt).trans (set1_tm oL3 1 (.int .i64 ((numV (strB xa.2) : Nat) : Int)) bt))
 replace m1' := (m1'.tn t3 (by decide)).same (map_set1 (m1'.tn t3 (by decide)).obj oL3 1 (.int .i64 ((numV (strB xa.2) : Nat) : Int)))
 replace h1' := RdAt.same h3 (Below.heap_setCell w3 ⟨L, 1, none⟩ (.int .i64 ((numV (strB xa.2) : Nat) : Int)) R hRL)
 generalize w3.setCell ⟨L, 1, none⟩ (.int .i64 ((numV (strB xa.2) : Nat) : Int)) = w4 at *
 clear t3 h3 oL3 d0 df
 have c1 := number9_any Wb w4 base R xb _ _ _ 1 60000 hb (tL.toB hB hb) hR h1'
 refine (Calls.mono c1 ?_)
 rintro _ w5 ⟨rfl, h3, t3⟩
 clear c1
 have oL3 := t3.objc oL (by decide)
 have d0 : w5.cell? ⟨L, 2, none⟩ = some (.int .i64 0) := obj_cell oL3 2
 have df := obj_free oL3 2
 go_wp2_with fail
 replace oL := obj_set oL3 2 (.int .i64 ((numV (strB xb.2) : Nat) : Int))
 replace tL := hLn _ (tL.trans (t3.mono (by decide) (Nat.le_refl _))) 2 (.int .i64 ((numV (strB xb.2) : Nat) : Int))
 replace u1' := u1'.trans ((t3.tm (by decide) bt).trans (set1_tm oL3 2 (.int .i64 ((numV (strB xb.2) : Nat) : Int)) bt))
 replace m1' := (m1'.tn t3 (by decide)).same (map_set1 (m1'.tn t3 (by decide)).obj oL3 2 (.int .i64 ((numV (strB xb.2) : Nat) : Int)))
 replace h1' := RdAt.same h3 (Below.heap_setCell w5 ⟨L, 2, none⟩ (.int .i64 ((numV (strB xb.2) : Nat) : Int)) R hRL)
 generalize w5.setCell ⟨L, 2, none⟩ (.int .i64 ((numV (strB xb.2) : Nat) : Int)) = w6 at *
 clear t3 h3 oL3 d0 df
 have c1 := number9_any Wb w6 base R xc _ _ _ 0 10000 hb (tL.toB hB hb) hR h1'
 refine (Calls.mono c1 ?_)
 rintro _ w7 ⟨rfl, h3, t3⟩
 clear c1
 have oL3 := t3.objc oL (by decide)
 have d0 : w7.cell? ⟨L, 3, none⟩ = some (.int .i64 0) := obj_cell oL3 3
 have df := obj_free oL3 3
 go_wp2_with fail
 replace oL := obj_set oL3 3 (.int .i64 ((numV (strB xc.2) : Nat) : Int))
 replace tL := hLn _ (tL.trans (t3.mono (by decide) (Nat.le_refl _))) 3 (.int .i64 ((numV (strB xc.2) : Nat) : Int))
 replace u1' := u1'.trans ((t3.tm (by decide) bt).trans (set1_tm oL3 3 (.int .i64 ((numV (strB xc.2) : Nat) : Int)) bt))
 replace m1' := (m1'.tn t3 (by decide)).same (map_set1 (m1'.tn t3 (by decide)).obj oL3 3 (.int .i64 ((numV (strB xc.2) : Nat) : Int)))
 replace h1' := RdAt.same h3 (Below.heap_setCell w7 ⟨L, 3, none⟩ (.int .i64 ((numV (strB xc.2) : Nat) : Int)) R hRL)
 generalize w7.setCell ⟨L, 3, none⟩ (.int .i64 ((numV (strB xc.2) : Nat) : Int)) = w8 at *
 clear t3 h3 oL3 d0 df
 have oS8 := tL.objc hS.obj (by decide)
 have row8 := hS.rows.tn tL (by decide) (by decide) (by decide) (by decide)
 have qA : B w8 (w8.drew.alloc (.cells #[.string (strB xn.2), .int .i64 ((numV (strB xa.2) : Nat) : Int), .int .i64 ((numV (strB xb.2) : Nat) : Int), .int .i64 ((numV (strB xc.2) : Nat) : Int), .slice none 0 0] 35)) := (B.refl w8).drew.alloc _ _
 have hown := ownsRow_keepB row8.ts qA
 have hbase : base ≤ (w8.drew.alloc (.cells #[.string (strB xn.2), .int .i64 ((numV (strB xa.2) : Nat) : Int), .int .i64 ((numV (strB xb.2) : Nat) : Int), .int .i64 ((numV (strB xc.2) : Nat) : Int), .slice none 0 0] 35)).heap.size := Nat.le_trans hbw (Nat.le_trans tL.size qA.below.size)
 have s0 : w8.drew.cell? ⟨S, 1, none⟩ = some tv := obj_cell (w := w8.drew) oS8 1
 have l0 : w8.drew.cell? ⟨L, 0, none⟩ = some (.string (strB xn.2)) := obj_cell (w := w8.drew) oL 0
 have l1 : w8.drew.cell? ⟨L, 1, none⟩ = some (.int .i64 ((numV (strB xa.2) : Nat) : Int)) := obj_cell (w := w8.drew) oL 1
 have l2 : w8.drew.cell? ⟨L, 2, none⟩ = some (.int .i64 ((numV (strB xb.2) : Nat) : Int)) := obj_cell (w := w8.drew) oL 2
 have l3 : w8.drew.cell? ⟨L, 3, none⟩ = some (.int .i64 ((numV (strB xc.2) : Nat) : Int)) := obj_cell (w := w8.drew) oL 3
 have l4 : w8.drew.cell? ⟨L, 4, none⟩ = some (.slice none 0 0) := obj_cell (w := w8.drew) oL 4
 clear oL
 have HX := Lib.hid (And.intro tL (And.intro u1' (And.intro m1' (And.intro h1' (And.intro hLn row8)))))
 clear tL u1' m1' h1' hLn row8
 refine wp_region_noPanic ?_
 refine wp_region_gate (S := fun w' => w'.cell? ⟨S, 1, none⟩ = some (tv) ∧ w'.cell? ⟨L, 0, none⟩ = some (.string (strB xn.2)) ∧ w'.cell? ⟨L, 1, none⟩ = some (.int .i64 ((numV (strB xa.2) : Nat) : Int)) ∧ w'.cell? ⟨L, 2, none⟩ = some (.int .i64 ((numV (strB xb.2) : Nat) : Int)) ∧ w'.cell? ⟨L, 3, none⟩ = some (.int .i64 ((numV (strB xc.2) : Nat) : Int)) ∧ w'.cell? ⟨L, 4, none⟩ = some (.slice none 0 0)) 8 [(0, 3), (1, 3), (2, 3), (3, 3), (4, 3), (5, 0), (6, 0), (7, 2), (8, 4), (9, 3), (10, 3), (11, 3), (12, 4)] [0, 0, 2, 4, 8, 16, 0, 64, 160, 511, 1023, 1535, 2559] [0, 0, 2, 4, 8, 16, 0, 64, 160, 1, 512, 1024, 2304] [0, 0, 0, 0, 0, 7968, 8128, 0, 0, 0, 0, 0, 0] (by kernel_rfl) (by kernel_rfl) (fun _ _ _ _ _ h => h) ?_ (fun hH => ?_)
 ·exact ⟨s0, l0, l1, l2, l3, l4⟩
 refine wpSeqG_free (d := 23) (v := ?_) rfl rfl (by kernel_rfl) (fun w => ?_) ?_
 rotate_left
 ·go_simp <;> with_reducible rfl
 dsimp only [sZ, sS]
 refine wpSeqG_free (d := 24) (v := ?_) rfl rfl (by kernel_rfl) (fun w => ?_) ?_
 rotate_left
 ·go_simp <;> with_reducible rfl
 dsimp only [sZ, sS]
 refine wpSeqG_free (d := 25) (v := ?_) rfl rfl (by kernel_rfl) (fun w => ?_) ?_
 rotate_left
 ·go_simp <;> with_reducible rfl
 dsimp only [sZ, sS]
 refine wpSeqG_free (d := 26) (v := ?_) rfl rfl (by kernel_rfl) (fun w => ?_) ?_
 rotate_left
 ·go_simp <;> with_reducible rfl
 dsimp only [sZ, sS]
 refine wpSeqG_free (d := 27) (v := ?_) rfl rfl (by kernel_rfl) (fun w => ?_) ?_
 rotate_left
 ·go_simp <;> with_reducible rfl
 dsimp only [sZ, sS]
 refine wpSeqG_take (d := 28) (v := ?_) rfl rfl (by kernel_rfl) (fun w hS => ?_) ?_
 rotate_left
 ·go_simp <;> with_reducible rfl
 dsimp only [sZ, sS]
 refine wpSeqG_take (d := 29) (v := ?_) rfl rfl (by kernel_rfl) (fun w hS => ?_) ?_
 rotate_left
 ·go_simp <;> with_reducible rfl
 dsimp only [sZ, sS]
 refine wpSeqG_call rfl (by kernel_rfl) (fun K hK => ?_)
 go_simp
 refine hK.out _ _ ?_ (fun hH => ?_)
 ·exact ⟨((B.refl _).alloc _ _).keep hH.1, ((B.refl _).alloc _ _).keep hH.2.1, ((B.refl _).alloc _ _).keep hH.2.2.1, ((B.refl _).alloc _ _).keep hH.2.2.2.1, ((B.refl _).alloc _ _).keep hH.2.2.2.2.1, ((B.refl _).alloc _ _).keep hH.2.2.2.2.2⟩
 clear hK
 refine wpSeqG_gate rfl (by kernel_rfl) (fun K hK => ?_)
 refine wp_append_lies _ _ _ 23 rfl base 35 i0 (.agg #[.string ⟨#[]⟩, .int .i64 0, .int .i64 0, .int .i64 0, .slice none 0 0]) 5 64 (by kernel_rfl) hi0 hz0 hz1 hz2 rfl (by omega) _ _ _ rfl hown ⟨w8.heap.size, 0, none⟩ 1 1 [.string (strB xn.2), .int .i64 ((numV (strB xa.2) : Nat) : Int), .int .i64 ((numV (strB xb.2) : Nat) : Int), .int .i64 ((numV (strB xc.2) : Nat) : Int), .slice none 0 0] rfl rfl (news_plain rfl) (by intro u hu; simp only [List.mem_cons, List.not_mem_nil, or_false] at hu; rcases hu with rfl | rfl | rfl | rfl | rfl <;> rfl) (by omega) (by unfold maxLen; omega) (by omega) hbase _ rfl ?_
 intro gN cN w9 hownN hgrowN hatN hltN
 have oS9 := obj_grown hgrowN (qA.obj oS8) (far_own (qA.obj oS8) hown (by decide))
 have y0 : w9.cell? ⟨S, 1, none⟩ = some tv := obj_cell oS9 1
 have y1 := obj_free oS9 1
 try simp only [Act.put, List.setIfInBounds_toArray, List.set_cons_zero, List.set_cons_succ]
 refine hK.out _ _ ?_
 clear hK
 refine wpSeqG_free (d := 32) (v := ?_) rfl rfl (by kernel_rfl) (fun w => ?_) ?_
 rotate_left
 ·go_simp <;> with_reducible rfl
 dsimp only [sZ, sS]
 refine wpSeqG_free (d := 33) (v := ?_) rfl rfl (by kernel_rfl) (fun w => ?_) ?_
 rotate_left
 ·go_simp <;> with_reducible rfl
 dsimp only [sZ, sS]
 refine wpSeqG_free (d := 34) (v := ?_) rfl rfl (by kernel_rfl) (fun w => ?_) ?_
 rotate_left
 ·go_simp <;> with_reducible rfl
 dsimp only [sZ, sS]
 refine wpSeqG_gate rfl (by kernel_rfl) (fun K hK => ?_)
 go_simp
 refine hK.out _ _ ?_
 clear hK
 refine wpSeqG_done ?_
 refine NoPanic.normal ?_
 obtain ⟨tL, u1', m1', h1', hLn, row8⟩ := HX.out
 have rowA := row8.b qA
 have rS : tv.ownBlock ≠ some S := far_own (qA.obj oS8) hown (by decide)
 have row9 := rowA.addT (r := ⟨strB xn.2, ((numV (strB xa.2) : Nat) : Int), ((numV (strB xb.2) : Nat) : Int), ((numV (strB xc.2) : Nat) : Int), []⟩) rfl hgrowN hownN
 have row10 := row9.tn ((Tn.refl [some 80] base w9).set oS9 (by decide) hS.gS (.slice (some ⟨gN, 0, none⟩) (d.ts.length + 1) cN) (p := ⟨S, 1, none⟩)) (by decide) (by decide) (by decide) (by decide)
 have t10 : Tn kS base w (w9.setCell ⟨S, 1, none⟩ (.slice (some ⟨gN, 0, none⟩) (d.ts.length + 1) cN)) := Tn.set (p := ⟨S, 1, none⟩) (Tn.appended ((tL.mono (by decide) (Nat.le_refl _)).trans (qA.tn kS base)) hown hgrowN (Nat.le_refl _) (by decide)) oS9 (by decide) hS.gS _
 have m9 := nm_grown hgrowN (m1'.tn (qA.tn [] base) (by simp)) (far_map (m1'.tn (qA.tn [] base) (by simp)).obj hown)
 have m10 := m9.same (map_set1 m9.obj oS9 1 (.slice (some ⟨gN, 0, none⟩) (d.ts.length + 1) cN))
 have om8 := (hS.mw.tm u1' hS.n1)
 have om9 := nm_grown hgrowN (om8.tn (qA.tn [] base) (by simp)) (far_map (om8.tn (qA.tn [] base) (by simp)).obj hown)
 have om10 := om9.same (map_set1 om9.obj oS9 1 (.slice (some ⟨gN, 0, none⟩) (d.ts.length + 1) cN))
 have f8 := (hS.mf.tm u1' hS.n3.symm)
 have f9 := fm_grown hgrowN (f8.tn (qA.tn [] base) (by simp)) (far_map (f8.tn (qA.tn [] base) (by simp)).obj hown)
 have f10 := f9.same (map_set1 f9.obj oS9 1 (.slice (some ⟨gN, 0, none⟩) (d.ts.length + 1) cN))
 have hA := h1'.tn (qA.tn [] base) (by simp)
 have hRr : tv.ownBlock ≠ some R := by obtain ⟨v, k, _⟩ := hA; exact far_own k hown (by decide)
 have h9 := rd_grown hgrowN hA hRr
 have hRS : R ≠ S := fun e => by
  obtain ⟨v, k, _⟩ := h9
  rw [e, oS9] at k
  injection k with k
  injection k with _ k
  exact absurd k (by decide)
 have h10 := RdAt.same h9 (Below.heap_setCell w9 ⟨S, 1, none⟩ (.slice (some ⟨gN, 0, none⟩) (d.ts.length + 1) cN) R hRS)
 have oS10 := obj_set oS9 1 (.slice (some ⟨gN, 0, none⟩) (d.ts.length + 1) cN)
 clear hH s0 l0 l1 l2 l3 l4 y0 y1 HX rowA row9 m9 om8 om9 f8 f9 hA h9 hRr tL u1' m1' h1' hLn row8 qA hown hownN hgrowN hatN hltN oS9 oS8 hbase
 generalize w9.setCell ⟨S, 1, none⟩ (.slice (some ⟨gN, 0, none⟩) (d.ts.length + 1) cN) = w10 at *
 have c0 : w10.drew.cell? ⟨S, 1, none⟩ = some (.slice (some ⟨gN, 0, none⟩) (d.ts.length + 1) cN) := obj_cell (w := w10.drew) oS10 1
 have c6 : w10.drew.cell? ⟨S, 6, none⟩ = some pv := obj_cell (w := w10.drew) oS10 6
 have c7 : w10.drew.cell? ⟨S, 7, none⟩ = some (.int .i64 head) := obj_cell (w := w10.drew) oS10 7
 have d6 : w10.drew.frozen? ⟨S, 6, none⟩ = false := obj_free (w := w10.drew) oS10 6
 have d7 : w10.drew.frozen? ⟨S, 7, none⟩ = false := obj_free (w := w10.drew) oS10 7
 have oS11 := obj_set oS10 6 (.pointer (some ⟨gN, d.ts.length * 5 + 4, none⟩))
 have e7 : (w10.setCell ⟨S, 6, none⟩ (.pointer (some ⟨gN, d.ts.length * 5 + 4, none⟩))).drew.cell? ⟨S, 7, none⟩ = some (.int .i64 head) := obj_cell (w := (w10.setCell ⟨S, 6, none⟩ (.pointer (some ⟨gN, d.ts.length * 5 + 4, none⟩))).drew) oS11 7
 have f7 : (w10.setCell ⟨S, 6, none⟩ (.pointer (some ⟨gN, d.ts.length * 5 + 4, none⟩))).drew.frozen? ⟨S, 7, none⟩ = false := obj_free (w := (w10.setCell ⟨S, 6, none⟩ (.pointer (some ⟨gN, d.ts.length * 5 + 4, none⟩))).drew) oS11 7
 have kw : IntKind.i64.wrap (d.ts.length : Int) = (d.ts.length : Int) := by rw [IntKind.wrap_i64]; omega
 have k1 : IntKind.i64.wrap (((d.ts.length + 1 : Nat) : Int) - 1) = (d.ts.length : Int) := by rw [IntKind.wrap_i64]; omega
 have k2 : (d.ts.length : Int) < ((d.ts.length + 1 : Nat) : Int) := by omega
 have k3 : (0 : Int) ≤ (d.ts.length : Int) := by omega
 have HX := Lib.hid (And.intro t10 (And.intro m10 (And.intro om10 (And.intro f10 (And.intro h10 row10)))))
 clear t10 m10 om10 f10 h10 row10
 go_wp2_with fail
 go_region
 all_goals
  first | go_end0 | refine bodyPost_ret (results_none rfl _ _ _) rfl ?_
  obtain ⟨t10, m10, om10, f10, h10, row10⟩ := HX.out
  have tl : ∀ (K : List (Option TypeId)), some 80 ∈ K → Tn K base w10 ((w10.setCell ⟨S, 6, none⟩ (.pointer (some ⟨gN, d.ts.length * 5 + 4, none⟩))).setCell ⟨S, 7, none⟩ (.int .i64 head')) := fun K hK =>
   Tn.set (p := ⟨S, 7, none⟩) (Tn.set (p := ⟨S, 6, none⟩) (Tn.refl K base w10) oS10 hK hS.gS _) oS11 hK hS.gS _
  have oth : ∀ i, i ≠ S → ((w10.setCell ⟨S, 6, none⟩ (.pointer (some ⟨gN, d.ts.length * 5 + 4, none⟩))).setCell ⟨S, 7, none⟩ (.int .i64 head')).heap[i]? = w10.heap[i]? := fun i hi =>
   (Below.heap_setCell _ ⟨S, 7, none⟩ _ i hi).trans (Below.heap_setCell _ ⟨S, 6, none⟩ _ i hi)
  have mapS : ∀ {b : Nat}, (∃ es c, w10.heap[b]? = some (.map es c)) → b ≠ S := fun {b} ⟨es, c, hb⟩ e => by
   rw [e, oS10] at hb
   cases hb
  refine ⟨rfl, gN, cN, RdAt.same h10 (oth R hRS), ⟨obj_set oS11 7 (.int .i64 head'), row10.tn (K := [some 80]) (b := base) (tl [some 80] (by decide)).drew (by decide) (by decide) (by decide) (by decide), ?_, ?_, f10.same (oth _ (mapS f10.obj)), hS.gS, hS.gw, hS.gt, hS.gf, hS.n1, hS.n2, hS.n3⟩, t10.trans (tl kS (by decide)).drew⟩
  ·exact om10.same (oth _ (mapS om10.obj))
  ·exact m10.same (oth _ (mapS m10.obj))
end Go.Proofs.YtglniapfnhedoaaGreatDoor
namespace Go.Proofs.YtglniapfnhedoaaGreatDoor
open Go.RowKit
set_option linter.unusedVariables false
set_option maxRecDepth 100000 in
set_option maxHeartbeats 1600000 in
theorem addSecRoundWare_any (Wb w : World) (base R S bw bt bf gW cap : Nat) (wv tv fv v : Value) (head : Int) (ws0 ws ts : List Wr) (r : Wr) (fs : List Fl) (nw nt : List ByteArray) (fl : List Fl) (ss tt ss0 : List Value) (x1 x2 x3 : Wd) (hb : Wb.heap.size ≤ base) (hB : B Wb w) (hbw : base ≤ w.heap.size) (hR : base ≤ R)
  (h : RdAt Wb w R [x1, x2, x3] 0 0) (hS : StAt w base S bw bt bf (.slice (some ⟨gW, 0, none⟩) (ws0.length + 1) cap) tv fv (.pointer (some ⟨gW, ws0.length * 5 + 4, none⟩)) head ⟨ws0 ++ [r], ts, fs⟩ nw nt fl (ss0 ++ [v]) tt) (hl : r.l.length < 100000) :
  Calls Tryz.prog 67 #[.pointer (some ⟨S, 0, none⟩), .bool true, .pointer (some ⟨R, 0, none⟩)] w fun r' w' => r' = .returned (.tuple #[]) ∧
   ∃ v', RdAt Wb w' R [] (fas [x1, x2, x3] (0, 0)).1 (fas [x1, x2, x3] (0, 0)).2 ∧ StAt w' base S bw bt bf (.slice (some ⟨gW, 0, none⟩) (ws0.length + 1) cap) tv fv (.pointer (some ⟨gW, ws0.length * 5 + 4, none⟩)) head ⟨ws0 ++ [moreR r ⟨true, ((numV (strB x1.2) : Nat) : Int), ((numV (strB x2.2) : Nat) : Int), 0, ((numV (strB x3.2) : Nat) : Int), 0⟩], ts, fs⟩ nw nt fl (ss0 ++ [v']) tt ∧ Tn kS base w w' := by
 obtain ⟨i0, hi0, hz0, hz1, hz2⟩ := info_of secInfo9
 have c0 := size9_any Wb w base R x1 [x2, x3] 0 0 hb hB hR h
 have nv : ∀ x : Wd, I64 ((numV (strB x.2) : Nat) : Int) := fun x => by
  unfold I64
  cases ho : numOk (strB x.2)
  ·rw [(num_no (fun h => by have := numOk_iff.2 h; rw [ho] at this; cases this)).2]; omega
  ·rw [(num_yes (numOk_iff.1 ho)).2]
   have := (numOk_iff.1 ho).2.2.2
   omega
 go_enter Tryz.func67, Tryz.ntmps67
 go_wp2_with fail
 refine (Calls.mono c0 ?_)
 rintro _ w1 ⟨rfl, h1, t1⟩
 clear c0
 have c1 := size9_any Wb w1 base R x2 [x3] _ _ hb (t1.toB hB hb) hR h1
 go_wp2_with fail
 refine (Calls.mono c1 ?_)
 rintro _ w2 ⟨rfl, h2, t2⟩
 clear c1
 have qB : B w2 (w2.alloc (.cells #[.bool true, .int .i64 ((numV (strB x1.2) : Nat) : Int), .int .i64 ((numV (strB x2.2) : Nat) : Int), .int .i64 0, .int .i64 0, .int .i64 0] 37)) := (B.refl w2).alloc _ _
 have oL := obj_new w2 (.cells #[.bool true, .int .i64 ((numV (strB x1.2) : Nat) : Int), .int .i64 ((numV (strB x2.2) : Nat) : Int), .int .i64 0, .int .i64 0, .int .i64 0] 37)
 have tL : Tn kR base w (w2.alloc (.cells #[.bool true, .int .i64 ((numV (strB x1.2) : Nat) : Int), .int .i64 ((numV (strB x2.2) : Nat) : Int), .int .i64 0, .int .i64 0, .int .i64 0] 37)) := (t1.trans t2).alloc _ _
 have h1' := h2.tn (qB.tn [] base) (by simp)
 have hLge := (t1.trans t2).size
 have hLn : ∀ (b : World), Tn kR base w b → ∀ k v, Tn kR base w (b.setCell ⟨w2.heap.size, k, none⟩ v) := fun b hb k v => hb.setNew (p := ⟨w2.heap.size, k, none⟩) (t1.trans t2).size v
 go_wp2_with fail
 generalize w2.alloc (.cells #[.bool true, .int .i64 ((numV (strB x1.2) : Nat) : Int), .int .i64 ((numV (strB x2.2) : Nat) : Int), .int .i64 0, .int .i64 0, .int .i64 0] 37) = w3 at *
 generalize w2.heap.size = L at *
 clear h1 h2 t1 t2 qB
 have hRL : R ≠ L := fun e => by
  obtain ⟨v, k, _⟩ := h1'
  rw [e, oL] at k
  injection k with k
  injection k with _ k
  exact absurd k (by decide)
 have c1 := size9_any Wb w3 base R x3 _ _ _ hb (tL.toB hB hb) hR h1'
 go_wp2_with fail
 refine (Calls.mono c1 ?_)
 rintro _ w4 ⟨rfl, h3, t3⟩
 clear c1
 have oL3 := t3.objc oL (by decide)
 have d0 : w4.cell? ⟨L, 4, none⟩ = some (.int .i64 0) := obj_cell oL3 4
 have df := obj_free oL3 4
 go_wp2_with fail
 replace oL := obj_set oL3 4 (.int .i64 ((numV (strB x3.2) : Nat) : Int))
 replace tL := hLn _ (tL.trans t3) 4 (.int .i64 ((numV (strB x3.2) : Nat) : Int))
 replace h1' := RdAt.same h3 (Below.heap_setCell w4 ⟨L, 4, none⟩ (.int .i64 ((numV (strB x3.2) : Nat) : Int)) R hRL)
 generalize w4.setCell ⟨L, 4, none⟩ (.int .i64 ((numV (strB x3.2) : Nat) : Int)) = w5 at *
 clear t3 h3 oL3 d0 df
 go_wp2_with fail
 have oS8 := tL.objc hS.obj (by decide)
 have row8 := hS.rows.tn tL (by decide) (by decide) (by decide) (by decide)
 obtain ⟨m, hm⟩ : ∃ m, ws0.length = m := ⟨_, rfl⟩
 have hsl : ss0.length = ws0.length := by have := hS.rows.sl; simpa using this
 have qA : B w5 (w5.drew.alloc (.cells #[.bool true, .int .i64 ((numV (strB x1.2) : Nat) : Int), .int .i64 ((numV (strB x2.2) : Nat) : Int), .int .i64 0, .int .i64 ((numV (strB x3.2) : Nat) : Int), .int .i64 0] 37)) := (B.refl w5).drew.alloc _ _
 have hown := ownsRow_keepB (row8.sh ws0.length r v (by simp) (by rw [← hsl]; simp)) qA
 have hbase : base ≤ (w5.drew.alloc (.cells #[.bool true, .int .i64 ((numV (strB x1.2) : Nat) : Int), .int .i64 ((numV (strB x2.2) : Nat) : Int), .int .i64 0, .int .i64 ((numV (strB x3.2) : Nat) : Int), .int .i64 0] 37)).heap.size := Nat.le_trans hbw (Nat.le_trans tL.size qA.below.size)
 obtain ⟨_, curG, oG⟩ := ownsRow_obj row8.ws (i := gW) rfl
 have hGc : curG[m * 5 + 4]? = some v := by
  have h1 := row8.ws.cells (g := gW) rfl (m * 5 + 4) v (by rw [← hm, flatR_get _ _ ws0.length 4 r v (by simp) (by rw [← hsl]; simp) (by omega)]; rfl)
  rw [add0, obj_cell oG] at h1
  exact h1
 have s6 : w5.drew.cell? ⟨S, 6, none⟩ = some (.pointer (some ⟨gW, m * 5 + 4, none⟩)) := by rw [← hm]; exact obj_cell (w := w5.drew) oS8 6
 have sv : w5.drew.cell? ⟨gW, m * 5 + 4, none⟩ = some v := (obj_cell (w := w5.drew) oG _).trans hGc
 have l0 : w5.drew.cell? ⟨L, 0, none⟩ = some (.bool true) := obj_cell (w := w5.drew) oL 0
 have l1 : w5.drew.cell? ⟨L, 1, none⟩ = some (.int .i64 ((numV (strB x1.2) : Nat) : Int)) := obj_cell (w := w5.drew) oL 1
 have l2 : w5.drew.cell? ⟨L, 2, none⟩ = some (.int .i64 ((numV (strB x2.2) : Nat) : Int)) := obj_cell (w := w5.drew) oL 2
 have l3 : w5.drew.cell? ⟨L, 3, none⟩ = some (.int .i64 0) := obj_cell (w := w5.drew) oL 3
 have l4 : w5.drew.cell? ⟨L, 4, none⟩ = some (.int .i64 ((numV (strB x3.2) : Nat) : Int)) := obj_cell (w := w5.drew) oL 4
 have l5 : w5.drew.cell? ⟨L, 5, none⟩ = some (.int .i64 0) := obj_cell (w := w5.drew) oL 5
 have rL : v.ownBlock ≠ some L := fun e => by
  have := ((hS.rows.sh ws0.length r v (by simp) (by rw [← hsl]; simp)).lt L e).2
  omega
 have hfact : ∀ wz : World, wz.heap[S]? = w5.heap[S]? → wz.cell? ⟨gW, m * 5 + 4, none⟩ = some v → wz.heap[L]? = w5.heap[L]? → wz.cell? ⟨S, 6, none⟩ = some (.pointer (some ⟨gW, m * 5 + 4, none⟩)) ∧ wz.cell? ⟨gW, m * 5 + 4, none⟩ = some v ∧ wz.cell? ⟨L, 0, none⟩ = some (.bool true) ∧ wz.cell? ⟨L, 1, none⟩ = some (.int .i64 ((numV (strB x1.2) : Nat) : Int)) ∧ wz.cell? ⟨L, 2, none⟩ = some (.int .i64 ((numV (strB x2.2) : Nat) : Int)) ∧ wz.cell? ⟨L, 3, none⟩ = some (.int .i64 0) ∧ wz.cell? ⟨L, 4, none⟩ = some (.int .i64 ((numV (strB x3.2) : Nat) : Int)) ∧ wz.cell? ⟨L, 5, none⟩ = some (.int .i64 0) :=
  fun wz hs hv hl => ⟨(obj_cell (hs.trans oS8) 6).trans (by rw [← hm]; rfl), hv, obj_cell (hl.trans oL) 0, obj_cell (hl.trans oL) 1, obj_cell (hl.trans oL) 2, obj_cell (hl.trans oL) 3, obj_cell (hl.trans oL) 4, obj_cell (hl.trans oL) 5⟩
 have HX := Lib.hid (And.intro tL (And.intro h1' (And.intro hLn row8)))
 clear tL h1' hLn row8
 refine wp_region_noPanic ?_
 refine wp_region_gate (S := fun w' => w'.cell? ⟨S, 6, none⟩ = some (.pointer (some ⟨gW, m * 5 + 4, none⟩)) ∧ w'.cell? ⟨gW, m * 5 + 4, none⟩ = some v ∧ w'.cell? ⟨L, 0, none⟩ = some (.bool true) ∧ w'.cell? ⟨L, 1, none⟩ = some (.int .i64 ((numV (strB x1.2) : Nat) : Int)) ∧ w'.cell? ⟨L, 2, none⟩ = some (.int .i64 ((numV (strB x2.2) : Nat) : Int)) ∧ w'.cell? ⟨L, 3, none⟩ = some (.int .i64 0) ∧ w'.cell? ⟨L, 4, none⟩ = some (.int .i64 ((numV (strB x3.2) : Nat) : Int)) ∧ w'.cell? ⟨L, 5, none⟩ = some (.int .i64 0)) 14 [(0, 3), (1, 3), (2, 3), (3, 0), (4, 3), (5, 3), (6, 3), (7, 0), (8, 3), (9, 0), (10, 0), (11, 2), (12, 2), (13, 3), (14, 4)] [0, 1, 2, 4, 0, 16, 32, 64, 128, 256, 0, 1024, 2560, 8191, 16383] [0, 1, 2, 4, 0, 16, 32, 64, 128, 256, 0, 1024, 2560, 8, 12288] [0, 0, 0, 24584, 0, 0, 0, 29568, 0, 29184, 31744, 0, 0, 0, 0] (by kernel_rfl) (by kernel_rfl) (fun _ _ _ _ _ h => h) ?_ (fun hH => ?_)
 ·exact ⟨s6, sv, l0, l1, l2, l3, l4, l5⟩
 refine wpSeqG_free (d := 26) (v := ?_) rfl rfl (by kernel_rfl) (fun w => ?_) ?_
 rotate_left
 ·go_simp <;> with_reducible rfl
 dsimp only [sZ, sS]
 refine wpSeqG_free (d := 27) (v := ?_) rfl rfl (by kernel_rfl) (fun w => ?_) ?_
 rotate_left
 ·go_simp <;> with_reducible rfl
 dsimp only [sZ, sS]
 refine wpSeqG_free (d := 28) (v := ?_) rfl rfl (by kernel_rfl) (fun w => ?_) ?_
 rotate_left
 ·go_simp <;> with_reducible rfl
 dsimp only [sZ, sS]
 refine wpSeqG_take (d := 29) (v := ?_) rfl rfl (by kernel_rfl) (fun w hS => ?_) ?_
 rotate_left
 ·go_simp <;> with_reducible rfl
 dsimp only [sZ, sS]
 refine wpSeqG_free (d := 30) (v := ?_) rfl rfl (by kernel_rfl) (fun w => ?_) ?_
 rotate_left
 ·go_simp <;> with_reducible rfl
 dsimp only [sZ, sS]
 refine wpSeqG_free (d := 31) (v := ?_) rfl rfl (by kernel_rfl) (fun w => ?_) ?_
 rotate_left
 ·go_simp <;> with_reducible rfl
 dsimp only [sZ, sS]
 refine wpSeqG_free (d := 32) (v := ?_) rfl rfl (by kernel_rfl) (fun w => ?_) ?_
 rotate_left
 ·go_simp <;> with_reducible rfl
 dsimp only [sZ, sS]
 refine wpSeqG_take (d := 33) (v := ?_) rfl rfl (by kernel_rfl) (fun w hS => ?_) ?_
 rotate_left
 ·go_simp <;> with_reducible rfl
 dsimp only [sZ, sS]
 refine wpSeqG_free (d := 34) (v := ?_) rfl rfl (by kernel_rfl) (fun w => ?_) ?_
 rotate_left
 ·go_simp <;> with_reducible rfl
 dsimp only [sZ, sS]
 refine wpSeqG_take (d := 35) (v := ?_) rfl rfl (by kernel_rfl) (fun w hS => ?_) ?_
 rotate_left
 ·go_simp <;> with_reducible rfl
 dsimp only [sZ, sS]
 refine wpSeqG_take (d := 36) (v := ?_) rfl rfl (by kernel_rfl) (fun w hS => ?_) ?_
 rotate_left
 ·go_simp <;> with_reducible rfl
 dsimp only [sZ, sS]
 refine wpSeqG_call rfl (by kernel_rfl) (fun K hK => ?_)
 go_simp
 refine hK.out _ _ ?_ (fun hH => ?_)
 ·first | exact ⟨((B.refl _).alloc _ _).keep hH.1, ((B.refl _).alloc _ _).keep hH.2.1, ((B.refl _).alloc _ _).keep hH.2.2.1, ((B.refl _).alloc _ _).keep hH.2.2.2.1, ((B.refl _).alloc _ _).keep hH.2.2.2.2.1, ((B.refl _).alloc _ _).keep hH.2.2.2.2.2.1, ((B.refl _).alloc _ _).keep hH.2.2.2.2.2.2.1, ((B.refl _).alloc _ _).keep hH.2.2.2.2.2.2.2⟩ | exact hS9
 clear hK
 refine wpSeqG_call rfl (by kernel_rfl) (fun K hK => ?_)
 refine wp_append_lies _ _ _ 31 rfl base 37 i0 (.agg #[.bool false, .int .i64 0, .int .i64 0, .int .i64 0, .int .i64 0, .int .i64 0]) 6 48 (by kernel_rfl) hi0 hz0 hz1 hz2 rfl (by omega) _ _ _ rfl hown ⟨w5.heap.size, 0, none⟩ 1 1 [.bool true, .int .i64 ((numV (strB x1.2) : Nat) : Int), .int .i64 ((numV (strB x2.2) : Nat) : Int), .int .i64 0, .int .i64 ((numV (strB x3.2) : Nat) : Int), .int .i64 0] rfl rfl (news_plain rfl) (by intro u hu; simp only [List.mem_cons, List.not_mem_nil, or_false] at hu; rcases hu with rfl | rfl | rfl | rfl | rfl | rfl <;> rfl) (by omega) (by unfold maxLen; omega) (by omega) hbase _ rfl ?_
 intro gN cN wz hownN hgrowN hatN hltN
 have oG9 := obj_grown hgrowN (qA.obj oG) (far_own (qA.obj oG) hown (by decide))
 have y0 : wz.cell? ⟨gW, m * 5 + 4, none⟩ = some v := (obj_cell oG9 _).trans hGc
 have y1 := obj_free oG9 (m * 5 + 4)
 have oL9 := obj_grown hgrowN (qA.obj oL) rL
 have oS9 := obj_grown hgrowN (qA.obj oS8) (far_own (qA.obj oS8) hown (by decide))
 have hS9 := hfact wz (oS9.trans oS8.symm) y0 (oL9.trans oL.symm)
 clear hfact
 try simp only [Act.put, List.setIfInBounds_toArray, List.set_cons_zero, List.set_cons_succ]
 refine hK.out _ _ ?_ (fun hH => ?_)
 ·first | exact ⟨((B.refl _).alloc _ _).keep hH.1, ((B.refl _).alloc _ _).keep hH.2.1, ((B.refl _).alloc _ _).keep hH.2.2.1, ((B.refl _).alloc _ _).keep hH.2.2.2.1, ((B.refl _).alloc _ _).keep hH.2.2.2.2.1, ((B.refl _).alloc _ _).keep hH.2.2.2.2.2.1, ((B.refl _).alloc _ _).keep hH.2.2.2.2.2.2.1, ((B.refl _).alloc _ _).keep hH.2.2.2.2.2.2.2⟩ | exact hS9
 clear hK
 refine wpSeqG_free (d := 39) (v := ?_) rfl rfl (by kernel_rfl) (fun w => ?_) ?_
 rotate_left
 ·go_simp <;> with_reducible rfl
 dsimp only [sZ, sS]
 refine wpSeqG_gate rfl (by kernel_rfl) (fun K hK => ?_)
 go_simp
 refine hK.out _ _ ?_
 clear hK
 refine wpSeqG_done ?_
 refine NoPanic.normal ?_
 all_goals
  first | go_end0 | refine bodyPost_ret (results_none rfl _ _ _) rfl ?_
  subst hm
  obtain ⟨tL, h1', hLn, row8⟩ := HX.out
  have rowA := row8.b qA
  have sI : Sec.I ⟨true, ((numV (strB x1.2) : Nat) : Int), ((numV (strB x2.2) : Nat) : Int), 0, ((numV (strB x3.2) : Nat) : Int), 0⟩ := by
   exact ⟨nv _, nv _, (show I64 0 by decide), nv _, (show I64 0 by decide)⟩
  have rowz := rowA.addSW (s := ⟨true, ((numV (strB x1.2) : Nat) : Int), ((numV (strB x2.2) : Nat) : Int), 0, ((numV (strB x3.2) : Nat) : Int), 0⟩) sI hgrowN hownN rfl hatN
  have hA := h1'.tn (qA.tn [] base) (by simp)
  have hRr : v.ownBlock ≠ some R := by obtain ⟨v, k, _⟩ := hA; exact far_own k hown (by decide)
  have h9 := rd_grown hgrowN hA hRr
  have hRG : R ≠ gW := fun e => by
   obtain ⟨v, k, _⟩ := h9
   rw [e, oG9] at k
   injection k with k
   injection k with _ k
   exact absurd k (by decide)
  have hSG : S ≠ gW := fun e => by
   have k := oS9
   rw [e, oG9] at k
   injection k with k
   injection k with _ k
   exact absurd k (by decide)
  have oth : ∀ i, i ≠ gW → (wz.setCell ⟨gW, ws0.length * 5 + 4, none⟩ (.slice (some ⟨gN, 0, none⟩) (r.l.length + 1) cN)).heap[i]? = wz.heap[i]? := fun i hi => Below.heap_setCell _ ⟨gW, ws0.length * 5 + 4, none⟩ _ i hi
  have mapG : ∀ {b : Nat}, (∃ es c, wz.heap[b]? = some (.map es c)) → b ≠ gW := fun {b} ⟨es, c, hb⟩ e => by
   rw [e, oG9] at hb
   cases hb
  have qK : ∀ {b : Nat} {ns : List ByteArray}, NmAt w b ns → NmAt (wz.setCell ⟨gW, ws0.length * 5 + 4, none⟩ (.slice (some ⟨gN, 0, none⟩) (r.l.length + 1) cN)) b ns := fun {b ns} hb => by
   have k1 := (hb.tn tL (by decide)).tn (qA.tn [] base) (by simp)
   have k2 := nm_grown hgrowN k1 (far_map k1.obj hown)
   exact k2.same (oth _ (mapG k2.obj))
  have qF : FmAt (wz.setCell ⟨gW, ws0.length * 5 + 4, none⟩ (.slice (some ⟨gN, 0, none⟩) (r.l.length + 1) cN)) bf fl := by
   have k1 := (hS.mf.tn tL (by decide)).tn (qA.tn [] base) (by simp)
   have k2 := fm_grown hgrowN k1 (far_map k1.obj hown)
   exact k2.same (oth _ (mapG k2.obj))
  have gG : base ≤ gW := (ownsRow_obj row8.ws (i := gW) rfl).1
  have tF : Tn kS base w (wz.setCell ⟨gW, ws0.length * 5 + 4, none⟩ (.slice (some ⟨gN, 0, none⟩) (r.l.length + 1) cN)) := Tn.set (p := ⟨gW, ws0.length * 5 + 4, none⟩) (Tn.appended ((tL.mono (by decide) (Nat.le_refl _)).trans (qA.tn kS base)) hown hgrowN (Nat.le_refl _) (by decide)) oG9 (by decide) gG _
  exact ⟨rfl, _, RdAt.same h9 (oth R hRG), ⟨(oth S hSG).trans oS9, rowz, qK hS.mw, qK hS.mt, qF, hS.gS, hS.gw, hS.gt, hS.gf, hS.n1, hS.n2, hS.n3⟩, tF⟩
end Go.Proofs.YtglniapfnhedoaaGreatDoor
namespace Go.Proofs.YtglniapfnhedoaaGreatDoor
open Go.RowKit
set_option linter.unusedVariables false
set_option maxRecDepth 100000 in
set_option maxHeartbeats 1600000 in
theorem addSecRoundTip_any (Wb w : World) (base R S bw bt bf gW cap : Nat) (wv tv fv v : Value) (head : Int) (ws0 ws ts : List Wr) (r : Wr) (fs : List Fl) (nw nt : List ByteArray) (fl : List Fl) (ss tt ss0 : List Value) (x1 x2 x3 : Wd) (hb : Wb.heap.size ≤ base) (hB : B Wb w) (hbw : base ≤ w.heap.size) (hR : base ≤ R)
  (h : RdAt Wb w R [x1, x2, x3] 0 0) (hS : StAt w base S bw bt bf wv (.slice (some ⟨gW, 0, none⟩) (ws0.length + 1) cap) fv (.pointer (some ⟨gW, ws0.length * 5 + 4, none⟩)) head ⟨ws, ws0 ++ [r], fs⟩ nw nt fl ss (ss0 ++ [v])) (hl : r.l.length < 100000) :
  Calls Tryz.prog 67 #[.pointer (some ⟨S, 0, none⟩), .bool true, .pointer (some ⟨R, 0, none⟩)] w fun r' w' => r' = .returned (.tuple #[]) ∧
   ∃ v', RdAt Wb w' R [] (fas [x1, x2, x3] (0, 0)).1 (fas [x1, x2, x3] (0, 0)).2 ∧ StAt w' base S bw bt bf wv (.slice (some ⟨gW, 0, none⟩) (ws0.length + 1) cap) fv (.pointer (some ⟨gW, ws0.length * 5 + 4, none⟩)) head ⟨ws, ws0 ++ [moreR r ⟨true, ((numV (strB x1.2) : Nat) : Int), ((numV (strB x2.2) : Nat) : Int), 0, ((numV (strB x3.2) : Nat) : Int), 0⟩], fs⟩ nw nt fl ss (ss0 ++ [v']) ∧ Tn kS base w w' := by
 obtain ⟨i0, hi0, hz0, hz1, hz2⟩ := info_of secInfo9
 have c0 := size9_any Wb w base R x1 [x2, x3] 0 0 hb hB hR h
 have nv : ∀ x : Wd, I64 ((numV (strB x.2) : Nat) : Int) := fun x => by
  unfold I64
  cases ho : numOk (strB x.2)
  ·rw [(num_no (fun h => by have := numOk_iff.2 h; rw [ho] at this; cases this)).2]; omega
  ·rw [(num_yes (numOk_iff.1 ho)).2]
   have := (numOk_iff.1 ho).2.2.2
   omega
 go_enter Tryz.func67, Tryz.ntmps67
 go_wp2_with fail
 refine (Calls.mono c0 ?_)
 rintro _ w1 ⟨rfl, h1, t1⟩
 clear c0
 have c1 := size9_any Wb w1 base R x2 [x3] _ _ hb (t1.toB hB hb) hR h1
 go_wp2_with fail
 refine (Calls.mono c1 ?_)
 rintro _ w2 ⟨rfl, h2, t2⟩
 clear c1
 have qB : B w2 (w2.alloc (.cells #[.bool true, .int .i64 ((numV (strB x1.2) : Nat) : Int), .int .i64 ((numV (strB x2.2) : Nat) : Int), .int .i64 0, .int .i64 0, .int .i64 0] 37)) := (B.refl w2).alloc _ _
 have oL := obj_new w2 (.cells #[.bool true, .int .i64 ((numV (strB x1.2) : Nat) : Int), .int .i64 ((numV (strB x2.2) : Nat) : Int), .int .i64 0, .int .i64 0, .int .i64 0] 37)
 have tL : Tn kR base w (w2.alloc (.cells #[.bool true, .int .i64 ((numV (strB x1.2) : Nat) : Int), .int .i64 ((numV (strB x2.2) : Nat) : Int), .int .i64 0, .int .i64 0, .int .i64 0] 37)) := (t1.trans t2).alloc _ _
 have h1' := h2.tn (qB.tn [] base) (by simp)
 have hLge := (t1.trans t2).size
 have hLn : ∀ (b : World), Tn kR base w b → ∀ k v, Tn kR base w (b.setCell ⟨w2.heap.size, k, none⟩ v) := fun b hb k v => hb.setNew (p := ⟨w2.heap.size, k, none⟩) (t1.trans t2).size v
 go_wp2_with fail
 generalize w2.alloc (.cells #[.bool true, .int .i64 ((numV (strB x1.2) : Nat) : Int), .int .i64 ((numV (strB x2.2) : Nat) : Int), .int .i64 0, .int .i64 0, .int .i64 0] 37) = w3 at *
 generalize w2.heap.size = L at *
 clear h1 h2 t1 t2 qB
 have hRL : R ≠ L := fun e => by
  obtain ⟨v, k, _⟩ := h1'
  rw [e, oL] at k
  injection k with k
  injection k with _ k
  exact absurd k (by decide)
 have c1 := size9_any Wb w3 base R x3 _ _ _ hb (tL.toB hB hb) hR h1'
 go_wp2_with fail
 refine (Calls.mono c1 ?_)
 rintro _ w4 ⟨rfl, h3, t3⟩
 clear c1
 have oL3 := t3.objc oL (by decide)
 have d0 : w4.cell? ⟨L, 4, none⟩ = some (.int .i64 0) := obj_cell oL3 4
 have df := obj_free oL3 4
 go_wp2_with fail
 replace oL := obj_set oL3 4 (.int .i64 ((numV (strB x3.2) : Nat) : Int))
 replace tL := hLn _ (tL.trans t3) 4 (.int .i64 ((numV (strB x3.2) : Nat) : Int))
 replace h1' := RdAt.same h3 (Below.heap_setCell w4 ⟨L, 4, none⟩ (.int .i64 ((numV (strB x3.2) : Nat) : Int)) R hRL)
 generalize w4.setCell ⟨L, 4, none⟩ (.int .i64 ((numV (strB x3.2) : Nat) : Int)) = w5 at *
 clear t3 h3 oL3 d0 df
 go_wp2_with fail
 have oS8 := tL.objc hS.obj (by decide)
 have row8 := hS.rows.tn tL (by decide) (by decide) (by decide) (by decide)
 obtain ⟨m, hm⟩ : ∃ m, ws0.length = m := ⟨_, rfl⟩
 have hsl : ss0.length = ws0.length := by have := hS.rows.tl; simpa using this
 have qA : B w5 (w5.drew.alloc (.cells #[.bool true, .int .i64 ((numV (strB x1.2) : Nat) : Int), .int .i64 ((numV (strB x2.2) : Nat) : Int), .int .i64 0, .int .i64 ((numV (strB x3.2) : Nat) : Int), .int .i64 0] 37)) := (B.refl w5).drew.alloc _ _
 have hown := ownsRow_keepB (row8.th ws0.length r v (by simp) (by rw [← hsl]; simp)) qA
 have hbase : base ≤ (w5.drew.alloc (.cells #[.bool true, .int .i64 ((numV (strB x1.2) : Nat) : Int), .int .i64 ((numV (strB x2.2) : Nat) : Int), .int .i64 0, .int .i64 ((numV (strB x3.2) : Nat) : Int), .int .i64 0] 37)).heap.size := Nat.le_trans hbw (Nat.le_trans tL.size qA.below.size)
 obtain ⟨_, curG, oG⟩ := ownsRow_obj row8.ts (i := gW) rfl
 have hGc : curG[m * 5 + 4]? = some v := by
  have h1 := row8.ts.cells (g := gW) rfl (m * 5 + 4) v (by rw [← hm, flatR_get _ _ ws0.length 4 r v (by simp) (by rw [← hsl]; simp) (by omega)]; rfl)
  rw [add0, obj_cell oG] at h1
  exact h1
 have s6 : w5.drew.cell? ⟨S, 6, none⟩ = some (.pointer (some ⟨gW, m * 5 + 4, none⟩)) := by rw [← hm]; exact obj_cell (w := w5.drew) oS8 6
 have sv : w5.drew.cell? ⟨gW, m * 5 + 4, none⟩ = some v := (obj_cell (w := w5.drew) oG _).trans hGc
 have l0 : w5.drew.cell? ⟨L, 0, none⟩ = some (.bool true) := obj_cell (w := w5.drew) oL 0
 have l1 : w5.drew.cell? ⟨L, 1, none⟩ = some (.int .i64 ((numV (strB x1.2) : Nat) : Int)) := obj_cell (w := w5.drew) oL 1
 have l2 : w5.drew.cell? ⟨L, 2, none⟩ = some (.int .i64 ((numV (strB x2.2) : Nat) : Int)) := obj_cell (w := w5.drew) oL 2
 have l3 : w5.drew.cell? ⟨L, 3, none⟩ = some (.int .i64 0) := obj_cell (w := w5.drew) oL 3
 have l4 : w5.drew.cell? ⟨L, 4, none⟩ = some (.int .i64 ((numV (strB x3.2) : Nat) : Int)) := obj_cell (w := w5.drew) oL 4
 have l5 : w5.drew.cell? ⟨L, 5, none⟩ = some (.int .i64 0) := obj_cell (w := w5.drew) oL 5
 have rL : v.ownBlock ≠ some L := fun e => by
  have := ((hS.rows.th ws0.length r v (by simp) (by rw [← hsl]; simp)).lt L e).2
  omega
 have hfact : ∀ wz : World, wz.heap[S]? = w5.heap[S]? → wz.cell? ⟨gW, m * 5 + 4, none⟩ = some v → wz.heap[L]? = w5.heap[L]? → wz.cell? ⟨S, 6, none⟩ = some (.pointer (some ⟨gW, m * 5 + 4, none⟩)) ∧ wz.cell? ⟨gW, m * 5 + 4, none⟩ = some v ∧ wz.cell? ⟨L, 0, none⟩ = some (.bool true) ∧ wz.cell? ⟨L, 1, none⟩ = some (.int .i64 ((numV (strB x1.2) : Nat) : Int)) ∧ wz.cell? ⟨L, 2, none⟩ = some (.int .i64 ((numV (strB x2.2) : Nat) : Int)) ∧ wz.cell? ⟨L, 3, none⟩ = some (.int .i64 0) ∧ wz.cell? ⟨L, 4, none⟩ = some (.int .i64 ((numV (strB x3.2) : Nat) : Int)) ∧ wz.cell? ⟨L, 5, none⟩ = some (.int .i64 0) :=
  fun wz hs hv hl => ⟨(obj_cell (hs.trans oS8) 6).trans (by rw [← hm]; rfl), hv, obj_cell (hl.trans oL) 0, obj_cell (hl.trans oL) 1, obj_cell (hl.trans oL) 2, obj_cell (hl.trans oL) 3, obj_cell (hl.trans oL) 4, obj_cell (hl.trans oL) 5⟩
 have HX := Lib.hid (And.intro tL (And.intro h1' (And.intro hLn row8)))
 clear tL h1' hLn row8
 refine wp_region_noPanic ?_
 refine wp_region_gate (S := fun w' => w'.cell? ⟨S, 6, none⟩ = some (.pointer (some ⟨gW, m * 5 + 4, none⟩)) ∧ w'.cell? ⟨gW, m * 5 + 4, none⟩ = some v ∧ w'.cell? ⟨L, 0, none⟩ = some (.bool true) ∧ w'.cell? ⟨L, 1, none⟩ = some (.int .i64 ((numV (strB x1.2) : Nat) : Int)) ∧ w'.cell? ⟨L, 2, none⟩ = some (.int .i64 ((numV (strB x2.2) : Nat) : Int)) ∧ w'.cell? ⟨L, 3, none⟩ = some (.int .i64 0) ∧ w'.cell? ⟨L, 4, none⟩ = some (.int .i64 ((numV (strB x3.2) : Nat) : Int)) ∧ w'.cell? ⟨L, 5, none⟩ = some (.int .i64 0)) 14 [(0, 3), (1, 3), (2, 3), (3, 0), (4, 3), (5, 3), (6, 3), (7, 0), (8, 3), (9, 0), (10, 0), (11, 2), (12, 2), (13, 3), (14, 4)] [0, 1, 2, 4, 0, 16, 32, 64, 128, 256, 0, 1024, 2560, 8191, 16383] [0, 1, 2, 4, 0, 16, 32, 64, 128, 256, 0, 1024, 2560, 8, 12288] [0, 0, 0, 24584, 0, 0, 0, 29568, 0, 29184, 31744, 0, 0, 0, 0] (by kernel_rfl) (by kernel_rfl) (fun _ _ _ _ _ h => h) ?_ (fun hH => ?_)
 ·exact ⟨s6, sv, l0, l1, l2, l3, l4, l5⟩
 refine wpSeqG_free (d := 26) (v := ?_) rfl rfl (by kernel_rfl) (fun w => ?_) ?_
 rotate_left
 ·go_simp <;> with_reducible rfl
 dsimp only [sZ, sS]
 refine wpSeqG_free (d := 27) (v := ?_) rfl rfl (by kernel_rfl) (fun w => ?_) ?_
 rotate_left
 ·go_simp <;> with_reducible rfl
 dsimp only [sZ, sS]
 refine wpSeqG_free (d := 28) (v := ?_) rfl rfl (by kernel_rfl) (fun w => ?_) ?_
 rotate_left
 ·go_simp <;> with_reducible rfl
 dsimp only [sZ, sS]
 refine wpSeqG_take (d := 29) (v := ?_) rfl rfl (by kernel_rfl) (fun w hS => ?_) ?_
 rotate_left
 ·go_simp <;> with_reducible rfl
 dsimp only [sZ, sS]
 refine wpSeqG_free (d := 30) (v := ?_) rfl rfl (by kernel_rfl) (fun w => ?_) ?_
 rotate_left
 ·go_simp <;> with_reducible rfl
 dsimp only [sZ, sS]
 refine wpSeqG_free (d := 31) (v := ?_) rfl rfl (by kernel_rfl) (fun w => ?_) ?_
 rotate_left
 ·go_simp <;> with_reducible rfl
 dsimp only [sZ, sS]
 refine wpSeqG_free (d := 32) (v := ?_) rfl rfl (by kernel_rfl) (fun w => ?_) ?_
 rotate_left
 ·go_simp <;> with_reducible rfl
 dsimp only [sZ, sS]
 refine wpSeqG_take (d := 33) (v := ?_) rfl rfl (by kernel_rfl) (fun w hS => ?_) ?_
 rotate_left
 ·go_simp <;> with_reducible rfl
 dsimp only [sZ, sS]
 refine wpSeqG_free (d := 34) (v := ?_) rfl rfl (by kernel_rfl) (fun w => ?_) ?_
 rotate_left
 ·go_simp <;> with_reducible rfl
 dsimp only [sZ, sS]
 refine wpSeqG_take (d := 35) (v := ?_) rfl rfl (by kernel_rfl) (fun w hS => ?_) ?_
 rotate_left
 ·go_simp <;> with_reducible rfl
 dsimp only [sZ, sS]
 refine wpSeqG_take (d := 36) (v := ?_) rfl rfl (by kernel_rfl) (fun w hS => ?_) ?_
 rotate_left
 ·go_simp <;> with_reducible rfl
 dsimp only [sZ, sS]
 refine wpSeqG_call rfl (by kernel_rfl) (fun K hK => ?_)
 go_simp
 refine hK.out _ _ ?_ (fun hH => ?_)
 ·first | exact ⟨((B.refl _).alloc _ _).keep hH.1, ((B.refl _).alloc _ _).keep hH.2.1, ((B.refl _).alloc _ _).keep hH.2.2.1, ((B.refl _).alloc _ _).keep hH.2.2.2.1, ((B.refl _).alloc _ _).keep hH.2.2.2.2.1, ((B.refl _).alloc _ _).keep hH.2.2.2.2.2.1, ((B.refl _).alloc _ _).keep hH.2.2.2.2.2.2.1, ((B.refl _).alloc _ _).keep hH.2.2.2.2.2.2.2⟩ | exact hS9
 clear hK
 refine wpSeqG_call rfl (by kernel_rfl) (fun K hK => ?_)
 refine wp_append_lies _ _ _ 31 rfl base 37 i0 (.agg #[.bool false, .int .i64 0, .int .i64 0, .int .i64 0, .int .i64 0, .int .i64 0]) 6 48 (by kernel_rfl) hi0 hz0 hz1 hz2 rfl (by omega) _ _ _ rfl hown ⟨w5.heap.size, 0, none⟩ 1 1 [.bool true, .int .i64 ((numV (strB x1.2) : Nat) : Int), .int .i64 ((numV (strB x2.2) : Nat) : Int), .int .i64 0, .int .i64 ((numV (strB x3.2) : Nat) : Int), .int .i64 0] rfl rfl (news_plain rfl) (by intro u hu; simp only [List.mem_cons, List.not_mem_nil, or_false] at hu; rcases hu with rfl | rfl | rfl | rfl | rfl | rfl <;> rfl) (by omega) (by unfold maxLen; omega) (by omega) hbase _ rfl ?_
 intro gN cN wz hownN hgrowN hatN hltN
 have oG9 := obj_grown hgrowN (qA.obj oG) (far_own (qA.obj oG) hown (by decide))
 have y0 : wz.cell? ⟨gW, m * 5 + 4, none⟩ = some v := (obj_cell oG9 _).trans hGc
 have y1 := obj_free oG9 (m * 5 + 4)
 have oL9 := obj_grown hgrowN (qA.obj oL) rL
 have oS9 := obj_grown hgrowN (qA.obj oS8) (far_own (qA.obj oS8) hown (by decide))
 have hS9 := hfact wz (oS9.trans oS8.symm) y0 (oL9.trans oL.symm)
 clear hfact
 try simp only [Act.put, List.setIfInBounds_toArray, List.set_cons_zero, List.set_cons_succ]
 refine hK.out _ _ ?_ (fun hH => ?_)
 ·first | exact ⟨((B.refl _).alloc _ _).keep hH.1, ((B.refl _).alloc _ _).keep hH.2.1, ((B.refl _).alloc _ _).keep hH.2.2.1, ((B.refl _).alloc _ _).keep hH.2.2.2.1, ((B.refl _).alloc _ _).keep hH.2.2.2.2.1, ((B.refl _).alloc _ _).keep hH.2.2.2.2.2.1, ((B.refl _).alloc _ _).keep hH.2.2.2.2.2.2.1, ((B.refl _).alloc _ _).keep hH.2.2.2.2.2.2.2⟩ | exact hS9
 clear hK
 refine wpSeqG_free (d := 39) (v := ?_) rfl rfl (by kernel_rfl) (fun w => ?_) ?_
 rotate_left
 ·go_simp <;> with_reducible rfl
 dsimp only [sZ, sS]
 refine wpSeqG_gate rfl (by kernel_rfl) (fun K hK => ?_)
 go_simp
 refine hK.out _ _ ?_
 clear hK
 refine wpSeqG_done ?_
 refine NoPanic.normal ?_
 all_goals
  first | go_end0 | refine bodyPost_ret (results_none rfl _ _ _) rfl ?_
  subst hm
  obtain ⟨tL, h1', hLn, row8⟩ := HX.out
  have rowA := row8.b qA
  have sI : Sec.I ⟨true, ((numV (strB x1.2) : Nat) : Int), ((numV (strB x2.2) : Nat) : Int), 0, ((numV (strB x3.2) : Nat) : Int), 0⟩ := by
   exact ⟨nv _, nv _, (show I64 0 by decide), nv _, (show I64 0 by decide)⟩
  have rowz := rowA.addST (s := ⟨true, ((numV (strB x1.2) : Nat) : Int), ((numV (strB x2.2) : Nat) : Int), 0, ((numV (strB x3.2) : Nat) : Int), 0⟩) sI hgrowN hownN rfl hatN
  have hA := h1'.tn (qA.tn [] base) (by simp)
  have hRr : v.ownBlock ≠ some R := by obtain ⟨v, k, _⟩ := hA; exact far_own k hown (by decide)
  have h9 := rd_grown hgrowN hA hRr
  have hRG : R ≠ gW := fun e => by
   obtain ⟨v, k, _⟩ := h9
   rw [e, oG9] at k
   injection k with k
   injection k with _ k
   exact absurd k (by decide)
  have hSG : S ≠ gW := fun e => by
   have k := oS9
   rw [e, oG9] at k
   injection k with k
   injection k with _ k
   exact absurd k (by decide)
  have oth : ∀ i, i ≠ gW → (wz.setCell ⟨gW, ws0.length * 5 + 4, none⟩ (.slice (some ⟨gN, 0, none⟩) (r.l.length + 1) cN)).heap[i]? = wz.heap[i]? := fun i hi => Below.heap_setCell _ ⟨gW, ws0.length * 5 + 4, none⟩ _ i hi
  have mapG : ∀ {b : Nat}, (∃ es c, wz.heap[b]? = some (.map es c)) → b ≠ gW := fun {b} ⟨es, c, hb⟩ e => by
   rw [e, oG9] at hb
   cases hb
  have qK : ∀ {b : Nat} {ns : List ByteArray}, NmAt w b ns → NmAt (wz.setCell ⟨gW, ws0.length * 5 + 4, none⟩ (.slice (some ⟨gN, 0, none⟩) (r.l.length + 1) cN)) b ns := fun {b ns} hb => by
   have k1 := (hb.tn tL (by decide)).tn (qA.tn [] base) (by simp)
   have k2 := nm_grown hgrowN k1 (far_map k1.obj hown)
   exact k2.same (oth _ (mapG k2.obj))
  have qF : FmAt (wz.setCell ⟨gW, ws0.length * 5 + 4, none⟩ (.slice (some ⟨gN, 0, none⟩) (r.l.length + 1) cN)) bf fl := by
   have k1 := (hS.mf.tn tL (by decide)).tn (qA.tn [] base) (by simp)
   have k2 := fm_grown hgrowN k1 (far_map k1.obj hown)
   exact k2.same (oth _ (mapG k2.obj))
  have gG : base ≤ gW := (ownsRow_obj row8.ts (i := gW) rfl).1
  have tF : Tn kS base w (wz.setCell ⟨gW, ws0.length * 5 + 4, none⟩ (.slice (some ⟨gN, 0, none⟩) (r.l.length + 1) cN)) := Tn.set (p := ⟨gW, ws0.length * 5 + 4, none⟩) (Tn.appended ((tL.mono (by decide) (Nat.le_refl _)).trans (qA.tn kS base)) hown hgrowN (Nat.le_refl _) (by decide)) oG9 (by decide) gG _
  exact ⟨rfl, _, RdAt.same h9 (oth R hRG), ⟨(oth S hSG).trans oS9, rowz, qK hS.mw, qK hS.mt, qF, hS.gS, hS.gw, hS.gt, hS.gf, hS.n1, hS.n2, hS.n3⟩, tF⟩
end Go.Proofs.YtglniapfnhedoaaGreatDoor
