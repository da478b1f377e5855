/-
  The code's step with one word more; A box of five cells, written whole. No program is named here; The code's reading of a line; The code's offsets; Four results. No program is named here; Steps and places under way: rows that the call owns, rows in rows.
-/
import Derived.OwnWalk
import Derived.Laws.OwnMore
import Derived.Test.YtnmcgleanpdlmaaDoorY1
import Derived.Test.YtnmcgleanpdlmaaDoorY2
import Derived.Test.YtnmcgleanpdlmaaDoorY3
import Derived.Test.YtnmcgleanpdlmaaDoorY4
import Derived.Test.YtnmcgleanpdlmaaDoorY7
import Derived.Test.YtnmcgleanpdlmaaDoorY9
import Derived.Test.YtnmcgleanpdlmaaDoorY10
import Derived.Test.YtnmcgleanpdlmaaDoorY11
namespace Go.Proofs.YtnmcgleanpdlmaaDoor
open Go.RowKit
set_option linter.unusedVariables false
set_option maxRecDepth 100000 in
set_option maxHeartbeats 4000000 in
theorem take_any (Wb w : World) (hB : B Wb w) (b : Nat) (hb : Wb.heap.size ≤ b) (s : Sp) (wv : Value) (what : Nat) (hc : what ≤ 4) (t : List UInt8) (ht : t.length ≤ 65536) (hU : StepU w Wb.heap.size b s wv) (hl : s.w.length ≤ 1000) :
    Calls Tryd.prog 50 #[.pointer (some ⟨b, 0, none⟩), .int .i64 (what : Int), .string (strB t)] w fun e w' => e = .returned (.int .i64 (((takeP s what t).2 : Nat) : Int)) ∧ ((takeP s what t).2 = 0 → ∃ wv', StepU w' Wb.heap.size b (takeP s what t).1 wv') ∧ Tn kSt Wb.heap.size w w' ∧ Oth b w w' := by
  obtain ⟨i0, hi0, hz0, hz1, hz2⟩ := info_of wellInfoP
  obtain ⟨K, N, WS, V, M⟩ := s
  obtain ⟨ho, hr⟩ := hU
  simp only at ho hr hl
  obtain ⟨so, sc, rfl⟩ := own_slice hr
  have y1 := obj_cell ho 1
  have f1 := obj_free ho 1
  have y2 := obj_cell ho 2
  have y3 := obj_cell ho 3
  have f3 := obj_free ho 3
  have y4 := obj_cell ho 4
  have f4 := obj_free ho 4
  obtain ⟨TS, hTS⟩ : ∃ TS, strB t = TS := ⟨_, rfl⟩
  have h5 : what = 0 ∨ what = 1 ∨ what = 2 ∨ what = 3 ∨ what = 4 := by omega
  rcases h5 with rfl | rfl | rfl | rfl | rfl
  · have hT : takeP ⟨K, N, WS, V, M⟩ 0 t = (⟨K, TS, WS, V, M⟩, if nameS TS then 0 else 25) := by rw [← hTS]; rfl
    have t1 : Tn kSt Wb.heap.size w (w.setCell ⟨b, 1, none⟩ (.string TS)) := Tn.set (p := ⟨b, 1, none⟩) (Tn.refl _ _ _) ho (by decide) hb _
    have hU1 : StepU (w.setCell ⟨b, 1, none⟩ (.string TS)) Wb.heap.size b ⟨K, TS, WS, V, M⟩ (.slice so WS.length sc) := ⟨by simpa using obj_set ho 1 (.string TS), ownsRow_set hr ho (by decide) _ _⟩
    have c1 := name_any TS (w.setCell ⟨b, 1, none⟩ (.string TS))
    have HH := Lib.hid (And.intro t1 (And.intro hU1 hT))
    rw [hTS]
    generalize nameS TS = ok at *
    have hu := fun w => unless_any ok 25 w
    obtain ⟨z9, hz9⟩ : ∃ z : Int, (if ok then 0 else 25) = z := ⟨_, rfl⟩
    rw [hz9] at hu
    replace hz9 := Lib.hid hz9
    clear hr ho hU1 t1 hT hTS y2 y3 y4 f3 f4
    go_enter Tryd.func50, Tryd.ntmps50
    go_wp2_with fail
    refine (Calls.mono c1 ?_)
    rintro _ w1 ⟨rfl, q1⟩
    clear c1
    go_wp2_with fail
    refine (Calls.mono (hu _) ?_)
    rintro _ w2 ⟨rfl, rfl⟩
    have HQ := Lib.hid q1
    clear hu
    clear q1 y1 f1
    go_wp2
    go_ret
    refine ⟨?_, fun _ => ?_, ?_⟩
    · rw [HH.out.2.2, ← hz9.out]; cases ok <;> rfl
    · rw [HH.out.2.2]; exact ⟨_, HH.out.2.1.keep HQ.out⟩
    · exact ⟨HH.out.1.trans (HQ.out.tn _ _), (Oth.set b w 1 _).trans (Oth.b b HQ.out)⟩
  · by_cases hk : t = kEach
    · have e1 : (TS.toList == [101, 97, 99, 104]) = true := by rw [← hTS, strB_lst, hk]; rfl
      have hT : takeP ⟨K, N, WS, V, M⟩ 1 t = (⟨K, N, WS, V, 1⟩, 0) := by show (if t = kEach then _ else _, 0) = _; rw [if_pos hk]
      have t1 : Tn kSt Wb.heap.size w (w.setCell ⟨b, 4, none⟩ (.int .i64 1)) := Tn.set (p := ⟨b, 4, none⟩) (Tn.refl _ _ _) ho (by decide) hb _
      have hU1 : StepU (w.setCell ⟨b, 4, none⟩ (.int .i64 1)) Wb.heap.size b ⟨K, N, WS, V, 1⟩ (.slice so WS.length sc) := ⟨by simpa using obj_set ho 4 (.int .i64 1), ownsRow_set hr ho (by decide) _ _⟩
      have HH := Lib.hid (And.intro t1 (And.intro hU1 hT))
      rw [hTS]
      clear hr ho hU1 t1 hT hTS hk
      go_enter Tryd.func50, Tryd.ntmps50
      go_wp2
      go_ret
      exact ⟨by rw [HH.out.2.2]; rfl, fun _ => by rw [HH.out.2.2]; exact ⟨_, HH.out.2.1⟩, HH.out.1, Oth.set b w 4 _⟩
    · have e1 : (TS.toList == [101, 97, 99, 104]) = false := by rw [← hTS, strB_lst, beq_eq_false_iff_ne]; exact hk
      have hT : takeP ⟨K, N, WS, V, M⟩ 1 t = (⟨K, N, WS, V, M⟩, 0) := by show (if t = kEach then _ else _, 0) = _; rw [if_neg hk]
      have HH := Lib.hid (And.intro (Tn.refl kSt Wb.heap.size w) (And.intro (show StepU w Wb.heap.size b ⟨K, N, WS, V, M⟩ (.slice so WS.length sc) from ⟨ho, hr⟩) hT))
      rw [hTS]
      clear hr ho hT hTS hk
      go_enter Tryd.func50, Tryd.ntmps50
      go_wp2
      go_ret
      exact ⟨by rw [HH.out.2.2]; rfl, fun _ => by rw [HH.out.2.2]; exact ⟨_, HH.out.2.1⟩, HH.out.1, Oth.refl b w⟩
  · have c1 := wparse_any t w ht
    rw [hTS] at c1 ⊢
    clear hTS
    go_enter Tryd.func50, Tryd.ntmps50
    go_wp2_with fail
    refine (Calls.mono c1 ?_)
    clear c1
    rintro e w1 (⟨wn, wr, wc, hwl, rfl, q1⟩ | ⟨hwl, rfl, q1⟩)
    · have hT : takeP ⟨K, N, WS, V, M⟩ 2 t = (⟨K, N, WS ++ [⟨strB wn, (wr : Int), (wc : Int)⟩], V, M⟩, 0) := by show (match wellL t with | some (n, r, q) => _ | none => _) = _; rw [hwl]
      have qA1 : B w (w1.alloc (.cells #[.string (strB wn), .int .i64 (wr : Int), .int .i64 (wc : Int)] 36)) := q1.alloc _ _
      have oW := obj_new w1 (.cells #[.string (strB wn), .int .i64 (wr : Int), .int .i64 (wc : Int)] 36)
      have oS3 := qA1.obj ho
      have hr3 := row_keep hr qA1
      go_wp2_with fail
      obtain ⟨W3, hW3⟩ : ∃ W3, w1.alloc (.cells #[.string (strB wn), .int .i64 (wr : Int), .int .i64 (wc : Int)] 36) = W3 := ⟨_, rfl⟩
      rw [hW3] at qA1 oW oS3 hr3
      have hS3 : W3.cell? ⟨b, 2, none⟩ = some (.slice so WS.length sc) ∧ W3.cell? ⟨w1.heap.size, 0, none⟩ = some (.string (strB wn)) ∧ W3.cell? ⟨w1.heap.size, 1, none⟩ = some (.int .i64 (wr : Int)) ∧ W3.cell? ⟨w1.heap.size, 2, none⟩ = some (.int .i64 (wc : Int)) := ⟨obj_cell oS3 2, obj_cell oW 0, obj_cell oW 1, obj_cell oW 2⟩
      have qA : B W3 (W3.alloc (.cells #[.string (strB wn), .int .i64 (wr : Int), .int .i64 (wc : Int)] 36)) := (B.refl _).alloc _ _
      have hown := row_keep hr3 qA
      have hbase : Wb.heap.size ≤ (W3.alloc (.cells #[.string (strB wn), .int .i64 (wr : Int), .int .i64 (wc : Int)] 36)).heap.size := by have h1 := hB.below.size; have h2 := qA1.below.size; have h3 := qA.below.size; omega
      clear hr ho y1 f1 y2 y3 f3 y4 f4
      try rw [hW3]
      refine wp_region_noPanic ?_
      refine wp_region_gate (S := fun w' => w'.cell? ⟨b, 2, none⟩ = some (.slice so WS.length sc) ∧ w'.cell? ⟨w1.heap.size, 0, none⟩ = some (.string (strB wn)) ∧ w'.cell? ⟨w1.heap.size, 1, none⟩ = some (.int .i64 (wr : Int)) ∧ w'.cell? ⟨w1.heap.size, 2, none⟩ = some (.int .i64 (wc : Int))) 7 [(0, 3), (1, 3), (2, 3), (3, 3), (4, 0), (5, 0), (6, 2), (7, 4), (8, 3), (9, 3), (10, 4)] [0, 0, 2, 4, 8, 0, 32, 80, 255, 511, 767] [0, 0, 2, 4, 8, 0, 32, 80, 1, 256, 640] [0, 0, 0, 0, 1936, 2016, 0, 0, 0, 0, 0] (by kernel_rfl) (by kernel_rfl) (fun _ _ _ _ _ h => h) ?_ (fun hH => ?_)
      · exact hS3
      refine wpSeqG_free (d := 37) (v := ?_) rfl rfl (by kernel_rfl) (fun w => ?_) ?_
      rotate_left
      · go_simp <;> with_reducible rfl
      dsimp only [List.set_cons_zero, List.set_cons_succ]
      refine wpSeqG_free (d := 38) (v := ?_) rfl rfl (by kernel_rfl) (fun w => ?_) ?_
      rotate_left
      · go_simp <;> with_reducible rfl
      dsimp only [List.set_cons_zero, List.set_cons_succ]
      refine wpSeqG_free (d := 39) (v := ?_) rfl rfl (by kernel_rfl) (fun w => ?_) ?_
      rotate_left
      · go_simp <;> with_reducible rfl
      dsimp only [List.set_cons_zero, List.set_cons_succ]
      refine wpSeqG_free (d := 40) (v := ?_) rfl rfl (by kernel_rfl) (fun w => ?_) ?_
      rotate_left
      · go_simp <;> with_reducible rfl
      dsimp only [List.set_cons_zero, List.set_cons_succ]
      refine wpSeqG_take (d := 41) (v := ?_) rfl rfl (by kernel_rfl) (fun w hS => ?_) ?_
      rotate_left
      · go_simp <;> with_reducible rfl
      dsimp only [List.set_cons_zero, List.set_cons_succ]
      refine wpSeqG_take (d := 42) (v := ?_) rfl rfl (by kernel_rfl) (fun w hS => ?_) ?_
      rotate_left
      · go_simp <;> with_reducible rfl
      dsimp only [List.set_cons_zero, List.set_cons_succ]
      refine wpSeqG_call rfl (by kernel_rfl) (fun K hK => ?_)
      go_simp
      refine hK.out _ _ ?_ (fun hH => ?_)
      · first | exact hS3 | exact ⟨((B.refl _).alloc _ _).keep hH.1, ((B.refl _).alloc _ _).keep hH.2.1, ((B.refl _).alloc _ _).keep hH.2.2.1, ((B.refl _).alloc _ _).keep hH.2.2.2⟩
      clear hK
      refine wpSeqG_gate rfl (by kernel_rfl) (fun K hK => ?_)
      refine wp_append_lies _ _ _ 25 rfl Wb.heap.size 36 i0 (.agg #[.string ⟨#[]⟩, .int .i64 0, .int .i64 0]) 3 32 (by kernel_rfl) hi0 hz0 hz1 hz2 rfl (by omega) _ _ _ rfl hown ⟨W3.heap.size, 0, none⟩ 1 1 [.string (strB wn), .int .i64 (wr : Int), .int .i64 (wc : Int)] rfl rfl (news_plain rfl) (by intro u hu; simp only [List.mem_cons, List.not_mem_nil, or_false] at hu; rcases hu with rfl | rfl | rfl <;> rfl) (by omega) (by unfold maxLen; omega) (by omega) hbase _ rfl ?_
      intro gN cN w9 hownN hgrowN hatN hltN
      have oS9 := obj_grown hgrowN (qA.obj oS3) (far_ownU (qA.obj oS3) hown (by decide))
      have s2 : w9.cell? ⟨b, 2, none⟩ = some (.slice so WS.length sc) := obj_cell oS9 2
      have sf := obj_free oS9 2
      try simp only [Act.put, List.setIfInBounds_toArray, List.set_cons_zero, List.set_cons_succ]
      refine hK.out _ _ ?_
      clear hK
      refine wpSeqG_free (d := 45) (v := ?_) rfl rfl (by kernel_rfl) (fun w => ?_) ?_
      rotate_left
      · go_simp <;> with_reducible rfl
      dsimp only [List.set_cons_zero, List.set_cons_succ]
      refine wpSeqG_free (d := 46) (v := ?_) rfl rfl (by kernel_rfl) (fun w => ?_) ?_
      rotate_left
      · go_simp <;> with_reducible rfl
      dsimp only [List.set_cons_zero, List.set_cons_succ]
      refine wpSeqG_gate rfl (by kernel_rfl) (fun K hK => ?_)
      go_simp
      refine hK.out _ _ ?_
      clear hK
      refine wpSeqG_done ?_
      refine NoPanic.normal ?_
      have HN := Lib.hid (And.intro hownN (And.intro hgrowN (And.intro oS9 (And.intro qA (And.intro qA1 (And.intro hT hown))))))
      clear hownN hgrowN oS9 hatN hltN hS3 qA qA1 hown hbase hr3 oS3 oW hT hB
      go_wp2_with fail
      refine (Calls.mono (unless_any _ _ _) ?_)
      rintro _ w2 ⟨rfl, rfl⟩
      clear s2 sf
      go_wp2
      go_ret
      have hN : w9.ownsRow Wb.heap.size 36 3 (.slice (some ⟨gN, 0, none⟩) (WS ++ [(⟨strB wn, (wr : Int), (wc : Int)⟩ : Wp)]).length cN) (WS ++ [(⟨strB wn, (wr : Int), (wc : Int)⟩ : Wp)]).length (flatWp (WS ++ [⟨strB wn, (wr : Int), (wc : Int)⟩])) := by
        rw [flatWp_snoc, List.length_append]
        exact HN.out.1
      refine ⟨by rw [HN.out.2.2.2.2.2.1]; rfl, fun _ => ?_, ?_⟩
      · rw [HN.out.2.2.2.2.2.1]
        exact ⟨.slice (some ⟨gN, 0, none⟩) (WS ++ [(⟨strB wn, (wr : Int), (wc : Int)⟩ : Wp)]).length cN, (by simpa using obj_set HN.out.2.2.1 2 (.slice (some ⟨gN, 0, none⟩) (WS ++ [(⟨strB wn, (wr : Int), (wc : Int)⟩ : Wp)]).length cN)), ownsRow_set hN HN.out.2.2.1 (by decide) _ _⟩
      · exact ⟨Tn.set (p := ⟨b, 2, none⟩) (Tn.appended (((HN.out.2.2.2.2.1.trans HN.out.2.2.2.1).drew).tn _ _) (World.ownsRow.drew HN.out.2.2.2.2.2.2) HN.out.2.1 (Nat.le_refl _) (by decide)) HN.out.2.2.1 (by decide) hb _, ((Oth.b b ((HN.out.2.2.2.2.1.trans HN.out.2.2.2.1).drew)).trans (Oth.grown b HN.out.2.1 (World.ownsRow.drew HN.out.2.2.2.2.2.2) (by decide))).trans (Oth.set b _ 2 _)⟩
    · have hT : takeP ⟨K, N, WS, V, M⟩ 2 t = (⟨K, N, WS, V, M⟩, 26) := by show (match wellL t with | some (n, r, q) => _ | none => _) = _; rw [hwl]
      have qA1 : B w (w1.alloc (.cells #[.string ⟨#[]⟩, .int .i64 0, .int .i64 0] 36)) := q1.alloc _ _
      have oW := obj_new w1 (.cells #[.string ⟨#[]⟩, .int .i64 0, .int .i64 0] 36)
      have oS3 := qA1.obj ho
      have hr3 := row_keep hr qA1
      go_wp2_with fail
      obtain ⟨W3, hW3⟩ : ∃ W3, w1.alloc (.cells #[.string ⟨#[]⟩, .int .i64 0, .int .i64 0] 36) = W3 := ⟨_, rfl⟩
      rw [hW3] at qA1 oW oS3 hr3
      have hS3 : W3.cell? ⟨b, 2, none⟩ = some (.slice so WS.length sc) ∧ W3.cell? ⟨w1.heap.size, 0, none⟩ = some (.string ⟨#[]⟩) ∧ W3.cell? ⟨w1.heap.size, 1, none⟩ = some (.int .i64 0) ∧ W3.cell? ⟨w1.heap.size, 2, none⟩ = some (.int .i64 0) := ⟨obj_cell oS3 2, obj_cell oW 0, obj_cell oW 1, obj_cell oW 2⟩
      have qA : B W3 (W3.alloc (.cells #[.string ⟨#[]⟩, .int .i64 0, .int .i64 0] 36)) := (B.refl _).alloc _ _
      have hown := row_keep hr3 qA
      have hbase : Wb.heap.size ≤ (W3.alloc (.cells #[.string ⟨#[]⟩, .int .i64 0, .int .i64 0] 36)).heap.size := by have h1 := hB.below.size; have h2 := qA1.below.size; have h3 := qA.below.size; omega
      clear hr ho y1 f1 y2 y3 f3 y4 f4
      try rw [hW3]
      refine wp_region_noPanic ?_
      refine wp_region_gate (S := fun w' => w'.cell? ⟨b, 2, none⟩ = some (.slice so WS.length sc) ∧ w'.cell? ⟨w1.heap.size, 0, none⟩ = some (.string ⟨#[]⟩) ∧ w'.cell? ⟨w1.heap.size, 1, none⟩ = some (.int .i64 0) ∧ w'.cell? ⟨w1.heap.size, 2, none⟩ = some (.int .i64 0)) 7 [(0, 3), (1, 3), (2, 3), (3, 3), (4, 0), (5, 0), (6, 2), (7, 4), (8, 3), (9, 3), (10, 4)] [0, 0, 2, 4, 8, 0, 32, 80, 255, 511, 767] [0, 0, 2, 4, 8, 0, 32, 80, 1, 256, 640] [0, 0, 0, 0, 1936, 2016, 0, 0, 0, 0, 0] (by kernel_rfl) (by kernel_rfl) (fun _ _ _ _ _ h => h) ?_ (fun hH => ?_)
      · exact hS3
      refine wpSeqG_free (d := 37) (v := ?_) rfl rfl (by kernel_rfl) (fun w => ?_) ?_
      rotate_left
      · go_simp <;> with_reducible rfl
      dsimp only [List.set_cons_zero, List.set_cons_succ]
      refine wpSeqG_free (d := 38) (v := ?_) rfl rfl (by kernel_rfl) (fun w => ?_) ?_
      rotate_left
      · go_simp <;> with_reducible rfl
      dsimp only [List.set_cons_zero, List.set_cons_succ]
      refine wpSeqG_free (d := 39) (v := ?_) rfl rfl (by kernel_rfl) (fun w => ?_) ?_
      rotate_left
      · go_simp <;> with_reducible rfl
      dsimp only [List.set_cons_zero, List.set_cons_succ]
      refine wpSeqG_free (d := 40) (v := ?_) rfl rfl (by kernel_rfl) (fun w => ?_) ?_
      rotate_left
      · go_simp <;> with_reducible rfl
      dsimp only [List.set_cons_zero, List.set_cons_succ]
      refine wpSeqG_take (d := 41) (v := ?_) rfl rfl (by kernel_rfl) (fun w hS => ?_) ?_
      rotate_left
      · go_simp <;> with_reducible rfl
      dsimp only [List.set_cons_zero, List.set_cons_succ]
      refine wpSeqG_take (d := 42) (v := ?_) rfl rfl (by kernel_rfl) (fun w hS => ?_) ?_
      rotate_left
      · go_simp <;> with_reducible rfl
      dsimp only [List.set_cons_zero, List.set_cons_succ]
      refine wpSeqG_call rfl (by kernel_rfl) (fun K hK => ?_)
      go_simp
      refine hK.out _ _ ?_ (fun hH => ?_)
      · first | exact hS3 | exact ⟨((B.refl _).alloc _ _).keep hH.1, ((B.refl _).alloc _ _).keep hH.2.1, ((B.refl _).alloc _ _).keep hH.2.2.1, ((B.refl _).alloc _ _).keep hH.2.2.2⟩
      clear hK
      refine wpSeqG_gate rfl (by kernel_rfl) (fun K hK => ?_)
      refine wp_append_lies _ _ _ 25 rfl Wb.heap.size 36 i0 (.agg #[.string ⟨#[]⟩, .int .i64 0, .int .i64 0]) 3 32 (by kernel_rfl) hi0 hz0 hz1 hz2 rfl (by omega) _ _ _ rfl hown ⟨W3.heap.size, 0, none⟩ 1 1 [.string ⟨#[]⟩, .int .i64 0, .int .i64 0] rfl rfl (news_plain rfl) (by intro u hu; simp only [List.mem_cons, List.not_mem_nil, or_false] at hu; rcases hu with rfl | rfl | rfl <;> rfl) (by omega) (by unfold maxLen; omega) (by omega) hbase _ rfl ?_
      intro gN cN w9 hownN hgrowN hatN hltN
      have oS9 := obj_grown hgrowN (qA.obj oS3) (far_ownU (qA.obj oS3) hown (by decide))
      have s2 : w9.cell? ⟨b, 2, none⟩ = some (.slice so WS.length sc) := obj_cell oS9 2
      have sf := obj_free oS9 2
      try simp only [Act.put, List.setIfInBounds_toArray, List.set_cons_zero, List.set_cons_succ]
      refine hK.out _ _ ?_
      clear hK
      refine wpSeqG_free (d := 45) (v := ?_) rfl rfl (by kernel_rfl) (fun w => ?_) ?_
      rotate_left
      · go_simp <;> with_reducible rfl
      dsimp only [List.set_cons_zero, List.set_cons_succ]
      refine wpSeqG_free (d := 46) (v := ?_) rfl rfl (by kernel_rfl) (fun w => ?_) ?_
      rotate_left
      · go_simp <;> with_reducible rfl
      dsimp only [List.set_cons_zero, List.set_cons_succ]
      refine wpSeqG_gate rfl (by kernel_rfl) (fun K hK => ?_)
      go_simp
      refine hK.out _ _ ?_
      clear hK
      refine wpSeqG_done ?_
      refine NoPanic.normal ?_
      have HN := Lib.hid (And.intro hownN (And.intro hgrowN (And.intro oS9 (And.intro qA (And.intro qA1 (And.intro hT hown))))))
      clear hownN hgrowN oS9 hatN hltN hS3 qA qA1 hown hbase hr3 oS3 oW hT hB
      go_wp2_with fail
      refine (Calls.mono (unless_any _ _ _) ?_)
      rintro _ w2 ⟨rfl, rfl⟩
      clear s2 sf
      go_wp2
      go_ret
      refine ⟨by rw [HN.out.2.2.2.2.2.1]; rfl, fun h => ?_, ?_⟩
      · rw [HN.out.2.2.2.2.2.1] at h; cases h
      · exact ⟨Tn.set (p := ⟨b, 2, none⟩) (Tn.appended (((HN.out.2.2.2.2.1.trans HN.out.2.2.2.1).drew).tn _ _) (World.ownsRow.drew HN.out.2.2.2.2.2.2) HN.out.2.1 (Nat.le_refl _) (by decide)) HN.out.2.2.1 (by decide) hb _, ((Oth.b b ((HN.out.2.2.2.2.1.trans HN.out.2.2.2.1).drew)).trans (Oth.grown b HN.out.2.1 (World.ownsRow.drew HN.out.2.2.2.2.2.2) (by decide))).trans (Oth.set b _ 2 _)⟩
  · have hT : takeP ⟨K, N, WS, V, M⟩ 3 t = if numP 20000000 t then (⟨K, N, WS, ((numV TS : Nat) : Int), M⟩, 0) else (⟨K, N, WS, V, M⟩, 20) := by rw [← hTS]; rfl
    have hnp : numP 20000000 t = (numOk TS && (decide (1 ≤ numV TS) && decide (numV TS ≤ 20000000))) := by unfold numP; rw [hTS, Bool.and_assoc]
    rw [hnp] at hT
    have c1 := pnumber_any TS 20000000 w
    rw [hTS]
    generalize (numOk TS && (decide (1 ≤ numV TS) && decide (numV TS ≤ 20000000))) = ok at *
    generalize numV TS = NV at *
    replace hT := Lib.hid hT
    have hu := fun w => unless_any ok 20 w
    obtain ⟨z9, hz9⟩ : ∃ z : Int, (if ok then 0 else 20) = z := ⟨_, rfl⟩
    rw [hz9] at hu
    replace hz9 := Lib.hid hz9
    clear hnp hTS
    go_enter Tryd.func50, Tryd.ntmps50
    go_wp2_with fail
    refine (Calls.mono c1 ?_)
    rintro _ w1 ⟨rfl, q1⟩
    have ho1 := q1.obj ho
    have g1 : w1.cell? ⟨b, 3, none⟩ = _ := obj_cell ho1 3
    have g2 := obj_free ho1 3
    have hU1 : StepU (w1.setCell ⟨b, 3, none⟩ (.int .i64 (NV : Int))) Wb.heap.size b ⟨K, N, WS, (NV : Int), M⟩ (.slice so WS.length sc) := ⟨by simpa using obj_set ho1 3 (.int .i64 (NV : Int)), ownsRow_set (row_keep hr q1) ho1 (by decide) _ _⟩
    have t1 : Tn kSt Wb.heap.size w (w1.setCell ⟨b, 3, none⟩ (.int .i64 (NV : Int))) := Tn.set (p := ⟨b, 3, none⟩) (q1.tn _ _) ho1 (by decide) hb _
    have HH := Lib.hid (And.intro t1 (And.intro hU1 q1))
    clear c1 hr ho hU1 t1 q1 ho1 y1 f1 y2 y3 f3 y4 f4
    go_wp2_with fail
    refine (Calls.mono (hu _) ?_)
    rintro _ w2 ⟨rfl, rfl⟩
    clear g1 g2 hu
    go_wp2
    go_ret
    refine ⟨?_, fun h => ?_, HH.out.1, (Oth.b b HH.out.2.2).trans (Oth.set b _ 3 _)⟩
    · rw [hT.out, ← hz9.out]; cases ok <;> rfl
    · rw [hT.out] at h ⊢
      cases ok
      · cases h
      · exact ⟨_, HH.out.2.1⟩
  · have hT : takeP ⟨K, N, WS, V, M⟩ 4 t = if numP 20 t then (⟨K, N, WS, V, ((numV TS : Nat) : Int)⟩, 0) else (⟨K, N, WS, V, M⟩, 20) := by rw [← hTS]; rfl
    have hnp : numP 20 t = (numOk TS && (decide (1 ≤ numV TS) && decide (numV TS ≤ 20))) := by unfold numP; rw [hTS, Bool.and_assoc]
    rw [hnp] at hT
    have c1 := pnumber_any TS 20 w
    rw [hTS]
    generalize (numOk TS && (decide (1 ≤ numV TS) && decide (numV TS ≤ 20))) = ok at *
    generalize numV TS = NV at *
    replace hT := Lib.hid hT
    have hu := fun w => unless_any ok 20 w
    obtain ⟨z9, hz9⟩ : ∃ z : Int, (if ok then 0 else 20) = z := ⟨_, rfl⟩
    rw [hz9] at hu
    replace hz9 := Lib.hid hz9
    clear hnp hTS
    go_enter Tryd.func50, Tryd.ntmps50
    go_wp2_with fail
    refine (Calls.mono c1 ?_)
    rintro _ w1 ⟨rfl, q1⟩
    have ho1 := q1.obj ho
    have g1 : w1.cell? ⟨b, 4, none⟩ = _ := obj_cell ho1 4
    have g2 := obj_free ho1 4
    have hU1 : StepU (w1.setCell ⟨b, 4, none⟩ (.int .i64 (NV : Int))) Wb.heap.size b ⟨K, N, WS, V, (NV : Int)⟩ (.slice so WS.length sc) := ⟨by simpa using obj_set ho1 4 (.int .i64 (NV : Int)), ownsRow_set (row_keep hr q1) ho1 (by decide) _ _⟩
    have t1 : Tn kSt Wb.heap.size w (w1.setCell ⟨b, 4, none⟩ (.int .i64 (NV : Int))) := Tn.set (p := ⟨b, 4, none⟩) (q1.tn _ _) ho1 (by decide) hb _
    have HH := Lib.hid (And.intro t1 (And.intro hU1 q1))
    clear c1 hr ho hU1 t1 q1 ho1 y1 f1 y2 y3 f3 y4 f4
    go_wp2_with fail
    refine (Calls.mono (hu _) ?_)
    rintro _ w2 ⟨rfl, rfl⟩
    clear g1 g2 hu
    go_wp2
    go_ret
    refine ⟨?_, fun h => ?_, HH.out.1, (Oth.b b HH.out.2.2).trans (Oth.set b _ 4 _)⟩
    · rw [hT.out, ← hz9.out]; cases ok <;> rfl
    · rw [hT.out] at h ⊢
      cases ok
      · cases h
      · exact ⟨_, HH.out.2.1⟩
end Go.Proofs.YtnmcgleanpdlmaaDoor

namespace Go.Proofs.YtnmcgleanpdlmaaDoor
open Go.RowKit
theorem obj_five {w : World} {b : Nat} {a0 a1 a2 a3 a4 : Value} {t : TypeId} (h : w.heap[b]? = some (.cells #[a0, a1, a2, a3, a4] t (0, 0))) (x0 x1 x2 x3 x4 : Value) :
    (((((w.setCell ⟨b, 0, none⟩ x0).setCell ⟨b, 1, none⟩ x1).setCell ⟨b, 2, none⟩ x2).setCell ⟨b, 3, none⟩ x3).setCell ⟨b, 4, none⟩ x4).heap[b]? = some (.cells #[x0, x1, x2, x3, x4] t (0, 0)) := by
  have := obj_set (obj_set (obj_set (obj_set (obj_set h 0 x0) 1 x1) 2 x2) 3 x3) 4 x4
  simpa using this
theorem b_five {u w : World} (h : B u w) {b : Nat} (hb : u.heap.size ≤ b) (x0 x1 x2 x3 x4 : Value) :
    B u (((((w.setCell ⟨b, 0, none⟩ x0).setCell ⟨b, 1, none⟩ x1).setCell ⟨b, 2, none⟩ x2).setCell ⟨b, 3, none⟩ x3).setCell ⟨b, 4, none⟩ x4) :=
  B.setCell (p := ⟨b, 4, none⟩) (B.setCell (p := ⟨b, 3, none⟩) (B.setCell (p := ⟨b, 2, none⟩) (B.setCell (p := ⟨b, 1, none⟩) (B.setCell (p := ⟨b, 0, none⟩) h hb _) hb _) hb _) hb _) hb _
end Go.Proofs.YtnmcgleanpdlmaaDoor

namespace Go.Proofs.YtnmcgleanpdlmaaDoor
open Go.RowKit
set_option linter.unusedVariables false
/-- What a line tells. -/
def ReadRes (had : Nat) (ws : List Wd) (w : World) (e : Ending) (w' : World) : Prop :=
  (∃ s wv, lineP had ws = .ok s ∧ e = .returned (.tuple #[.agg #[.int .i64 s.k, .string s.n, wv, .int .i64 s.v, .int .i64 s.m], .int .i64 0, .int .i64 0]) ∧ w'.ownsRow w.heap.size 36 3 wv s.w.length (flatWp s.w) ∧ B w w') ∨
  (∃ p n : Nat, lineP had ws = .error (p, n) ∧ e = .returned (.tuple #[.agg #[.int .i64 0, .string ⟨#[]⟩, .slice none 0 0, .int .i64 0, .int .i64 0], .int .i64 (p : Int), .int .i64 (n : Int)]) ∧ B w w')
theorem StepU.drew {w : World} {base b : Nat} {s : Sp} {wv : Value} (h : StepU w base b s wv) : StepU w.drew base b s wv := ⟨(B.refl w).drew.obj h.obj, World.ownsRow.drew h.row⟩
theorem takeP_len (s : Sp) (c : Nat) (t : List UInt8) : (takeP s c t).1.w.length ≤ s.w.length + 1 := by
  unfold takeP
  repeat' split
  all_goals simp
theorem readP_step {k i : Nat} {s : Sp} {ws : List Wd} {x : Wd} (h : ws[i]? = some x) (j : Nat) : readP k j s (ws.drop i) = if (takeP s (toldP k j) x.2).2 = 0 then readP k (j + 1) (takeP s (toldP k j) x.2).1 (ws.drop (i + 1)) else .error (x.1, (takeP s (toldP k j) x.2).2) := by
  have hi : i < ws.length := (List.getElem?_eq_some_iff.1 h).1
  rw [List.drop_eq_getElem_cons hi, show ws[i] = x by rw [List.getElem?_eq_getElem hi] at h; simpa using h, readP]
theorem enough_two {k n : Nat} (h : enoughP k n = true) : 2 ≤ n := by
  unfold enoughP at h
  split at h
  · simp at h; omega
  · split at h <;> simp at h <;> omega
set_option maxRecDepth 100000 in
set_option maxHeartbeats 2000000 in
theorem pread_any (v : Value) (x : Wd) (ws : List Wd) (had : Nat) (hh : had ≤ 200) (w : World) (h : IsWords w v (x :: ws)) (hz : ws.length ≤ 65536) (ht : ∀ y ∈ ws, y.2.length ≤ 65536) : Calls Tryd.prog 32 #[v, .bool (decide (had = 200))] w (ReadRes had (x :: ws) w) := by
  obtain ⟨g, lc, rfl, hle, hm, hlt, z⟩ := h.full (by simp)
  have q0 : B w (w.alloc (.cells #[.int .i64 0, .string ⟨#[]⟩, .slice none 0 0, .int .i64 0, .int .i64 0] 27)) := (B.refl _).alloc _ _
  have oR := obj_new w (.cells #[.int .i64 0, .string ⟨#[]⟩, .slice none 0 0, .int .i64 0, .int .i64 0] 27)
  have cK := pkind_any _ x ws _ (h.keep q0) hz
  unfold KindRes at cK
  obtain ⟨n, hn⟩ : ∃ n, (x :: ws).length = n := ⟨_, rfl⟩
  obtain ⟨m, hm'⟩ : ∃ m, ws.length = m := ⟨_, rfl⟩
  have hnm' : n = m + 1 := by rw [← hn, ← hm']; simp
  have hn0 : (0 : Int) < (n : Int) := by omega
  have hmn : (n : Int) - 1 = (m : Int) := by omega
  have hnm := Lib.hid hnm'
  clear hnm'
  obtain ⟨XA, hXA⟩ : ∃ XA, x.1 = XA := ⟨_, rfl⟩
  have z0 := (z 0 x rfl).1
  rw [Nat.zero_mul, hXA] at z0
  have HZ := Lib.hid z
  have k0 := q0.keep z0
  rw [hn] at cK hle ⊢
  clear h z hlt z0
  go_enter Tryd.func32, Tryd.ntmps32
  go_wp2_with fail
  generalize w.alloc (.cells #[.int .i64 0, .string ⟨#[]⟩, .slice none 0 0, .int .i64 0, .int .i64 0] 27) = W0 at *
  generalize hRb : w.heap.size = R at *
  refine (Calls.mono cK ?_)
  rintro e w2 ⟨k, rfl, hk, hk6, q2⟩
  have oR2 := q2.obj oR
  have q02 := q0.trans q2
  clear cK k0 oR q0 q2
  cases hhd : headP (x :: ws) with
  | none =>
    have HE : Hid (lineP had (x :: ws) = .error (XA, 24)) := Lib.hid (by unfold lineP; simp only [hhd, hXA])
    clear hhd hk hm
    have b0 := obj_cell oR2 0
    have f0 := obj_free oR2 0
    have b1 := obj_cell oR2 1
    have f1 := obj_free oR2 1
    have b2 := obj_cell oR2 2
    have f2 := obj_free oR2 2
    have b3 := obj_cell oR2 3
    have f3 := obj_free oR2 3
    have b4 := obj_cell oR2 4
    have f4 := obj_free oR2 4
    simp only [List.getElem?_toArray, List.getElem?_cons_zero, List.getElem?_cons_succ] at b0 b1 b2 b3 b4
    go_wp2_with fail
    go_wp2
    have ob6 := obj_five oR2 (.int .i64 0) (.string ⟨#[]⟩) (.slice none 0 0) (.int .i64 0) (.int .i64 0)
    have B6 := b_five q02 (Nat.le_of_eq hRb) (.int .i64 0) (.string ⟨#[]⟩) (.slice none 0 0) (.int .i64 0) (.int .i64 0)
    generalize (((((w2.setCell ⟨R, 0, none⟩ (.int .i64 0)).setCell ⟨R, 1, none⟩ (.string ⟨#[]⟩)).setCell ⟨R, 2, none⟩ (.slice none 0 0)).setCell ⟨R, 3, none⟩ (.int .i64 0)).setCell ⟨R, 4, none⟩ (.int .i64 0)) = W6 at *
    have d0 := obj_cell ob6 0
    have d1 := obj_cell ob6 1
    have d2 := obj_cell ob6 2
    have d3 := obj_cell ob6 3
    have d4 := obj_cell ob6 4
    simp only [List.getElem?_toArray, List.getElem?_cons_zero, List.getElem?_cons_succ] at d0 d1 d2 d3 d4
    exact bodyPost_ret (v := .tuple #[.agg #[.int .i64 0, .string ⟨#[]⟩, .slice none 0 0, .int .i64 0, .int .i64 0], .int .i64 (XA : Int), .int .i64 24]) (by simp [results, Tryd.results32, go_sem, d0, d1, d2, d3, d4]) rfl (.inr ⟨XA, 24, HE.out, rfl, B6⟩)
  | some j =>
    obtain rfl := hk j hhd
    obtain ⟨hkk, hen, _⟩ := headP_kind hhd
    have hn2 := enough_two hen
    rw [hm', ← hnm.out] at hn2
    have hL : lineP had (x :: ws) = if 200 ≤ had ∨ 98 < n then .error (XA, 27) else readP k 1 (sp0 k) ws := by
      show (match headP (x :: ws) with | none => _ | some k => if 200 ≤ had ∨ 98 < (x :: ws).length then _ else _) = _
      rw [hhd, hn, hXA]
    obtain ⟨m2, hm2⟩ : ∃ m2 : Nat, n = m2 + 2 := ⟨n - 2, by omega⟩
    have wm2 : IntKind.i64.wrap ((n : Int) - 2) = (m2 : Int) := by rw [IntKind.wrap_i64]; omega
    have hmm := Lib.hid hm2
    clear hhd hk hkk hen hm2
    by_cases hfull : had = 200
    · have hB : decide (had = 200) = true := decide_eq_true hfull
      have HE : Hid (lineP had (x :: ws) = .error (XA, 27)) := Lib.hid (by rw [hL, if_pos (.inl (by omega))])
      rw [hB]
      clear hL hfull hm
      have b0 := obj_cell oR2 0
      have f0 := obj_free oR2 0
      have b1 := obj_cell oR2 1
      have f1 := obj_free oR2 1
      have b2 := obj_cell oR2 2
      have f2 := obj_free oR2 2
      have b3 := obj_cell oR2 3
      have f3 := obj_free oR2 3
      have b4 := obj_cell oR2 4
      have f4 := obj_free oR2 4
      simp only [List.getElem?_toArray, List.getElem?_cons_zero, List.getElem?_cons_succ] at b0 b1 b2 b3 b4
      go_wp2_with fail
      go_wp2
      have ob6 := obj_five oR2 (.int .i64 0) (.string ⟨#[]⟩) (.slice none 0 0) (.int .i64 0) (.int .i64 0)
      have B6 := b_five q02 (Nat.le_of_eq hRb) (.int .i64 0) (.string ⟨#[]⟩) (.slice none 0 0) (.int .i64 0) (.int .i64 0)
      generalize (((((w2.setCell ⟨R, 0, none⟩ (.int .i64 0)).setCell ⟨R, 1, none⟩ (.string ⟨#[]⟩)).setCell ⟨R, 2, none⟩ (.slice none 0 0)).setCell ⟨R, 3, none⟩ (.int .i64 0)).setCell ⟨R, 4, none⟩ (.int .i64 0)) = W6 at *
      have d0 := obj_cell ob6 0
      have d1 := obj_cell ob6 1
      have d2 := obj_cell ob6 2
      have d3 := obj_cell ob6 3
      have d4 := obj_cell ob6 4
      simp only [List.getElem?_toArray, List.getElem?_cons_zero, List.getElem?_cons_succ] at d0 d1 d2 d3 d4
      exact bodyPost_ret (v := .tuple #[.agg #[.int .i64 0, .string ⟨#[]⟩, .slice none 0 0, .int .i64 0, .int .i64 0], .int .i64 (XA : Int), .int .i64 27]) (by simp [results, Tryd.results32, go_sem, d0, d1, d2, d3, d4]) rfl (.inr ⟨XA, 27, HE.out, rfl, B6⟩)
    have hB : decide (had = 200) = false := decide_eq_false hfull
    rw [hB]
    by_cases hbig : 98 < n
    · have h96 : decide ((96 : Int) < (m2 : Int)) = true := decide_eq_true (by have := hmm.out; omega)
      have h96N : decide (96 < m2) = true := decide_eq_true (by have := hmm.out; omega)
      have HE : Hid (lineP had (x :: ws) = .error (XA, 27)) := Lib.hid (by rw [hL, if_pos (.inr hbig)])
      clear hL hfull hm hbig
      have b0 := obj_cell oR2 0
      have f0 := obj_free oR2 0
      have b1 := obj_cell oR2 1
      have f1 := obj_free oR2 1
      have b2 := obj_cell oR2 2
      have f2 := obj_free oR2 2
      have b3 := obj_cell oR2 3
      have f3 := obj_free oR2 3
      have b4 := obj_cell oR2 4
      have f4 := obj_free oR2 4
      simp only [List.getElem?_toArray, List.getElem?_cons_zero, List.getElem?_cons_succ] at b0 b1 b2 b3 b4
      go_wp2_with fail
      go_wp2
      have ob6 := obj_five oR2 (.int .i64 0) (.string ⟨#[]⟩) (.slice none 0 0) (.int .i64 0) (.int .i64 0)
      have B6 := b_five q02 (Nat.le_of_eq hRb) (.int .i64 0) (.string ⟨#[]⟩) (.slice none 0 0) (.int .i64 0) (.int .i64 0)
      generalize (((((w2.setCell ⟨R, 0, none⟩ (.int .i64 0)).setCell ⟨R, 1, none⟩ (.string ⟨#[]⟩)).setCell ⟨R, 2, none⟩ (.slice none 0 0)).setCell ⟨R, 3, none⟩ (.int .i64 0)).setCell ⟨R, 4, none⟩ (.int .i64 0)) = W6 at *
      have d0 := obj_cell ob6 0
      have d1 := obj_cell ob6 1
      have d2 := obj_cell ob6 2
      have d3 := obj_cell ob6 3
      have d4 := obj_cell ob6 4
      simp only [List.getElem?_toArray, List.getElem?_cons_zero, List.getElem?_cons_succ] at d0 d1 d2 d3 d4
      exact bodyPost_ret (v := .tuple #[.agg #[.int .i64 0, .string ⟨#[]⟩, .slice none 0 0, .int .i64 0, .int .i64 0], .int .i64 (XA : Int), .int .i64 27]) (by simp [results, Tryd.results32, go_sem, d0, d1, d2, d3, d4]) rfl (.inr ⟨XA, 27, HE.out, rfl, B6⟩)
    have h96 : decide ((96 : Int) < (m2 : Int)) = false := decide_eq_false (by have := hmm.out; omega)
    have h96N : decide (96 < m2) = false := decide_eq_false (by have := hmm.out; omega)
    rw [if_neg (by omega)] at hL
    replace hL := Lib.hid hL
    have qS : B w2 (w2.alloc (.cells #[.int .i64 (k : Int), .string ⟨#[]⟩, .slice none 0 0, .int .i64 0, .int .i64 0] 27)) := (B.refl _).alloc _ _
    have oS := obj_new w2 (.cells #[.int .i64 (k : Int), .string ⟨#[]⟩, .slice none 0 0, .int .i64 0, .int .i64 0] 27)
    have oR3 := qS.obj oR2
    have q03 := q02.trans qS
    have hRS : R ≠ w2.heap.size := fun e => by have := obj_lt oR2; omega
    have hwS : w.heap.size ≤ w2.heap.size := q02.below.size
    have hlc : ¬ lc = 1 := by omega
    clear qS oR2 q02
    go_wp2_with fail
    generalize w2.alloc (.cells #[.int .i64 (k : Int), .string ⟨#[]⟩, .slice none 0 0, .int .i64 0, .int .i64 0] 27) = W3 at *
    generalize hSb : w2.heap.size = S at *
    rw [show n - 1 = m from by have := hnm.out; omega]
    generalize lc - 1 = lc1 at *
    have hU0 : StepU W3 R S (sp0 k) (.slice none 0 0) := ⟨oS, World.ownsRow_nil _ _ _ _⟩
    go_loopw [41] (fun iv wr => ∃ (i : Nat) (s : Sp) (wv : Value), i ≤ m ∧ iv = .int .i64 i ∧ readP k (i + 1) s (ws.drop i) = readP k 1 (sp0 k) ws ∧ s.w.length ≤ i ∧ StepU wr R S s wv ∧ B w wr ∧ wr.heap[R]? = some (.cells #[.int .i64 0, .string ⟨#[]⟩, .slice none 0 0, .int .i64 0, .int .i64 0] 27 (0, 0))) (fun iv _ => m + 1 - (intOf iv).toNat)
    case atStart => exact ⟨0, sp0 k, _, Nat.zero_le _, rfl, rfl, Nat.le_refl _, hU0, q03, oR3⟩
    case round =>
      clear hU0 q03 oR3 oS
      obtain ⟨i, s, wv, hi, rfl, hread, hlen, hU, q, oRi⟩ := hrel
      obtain ⟨wi, rfl⟩ : ∃ wi : World, wi = wr := ⟨_, rfl⟩
      by_cases hl : i < m
      · have hlB : decide ((i : Int) < (m : Int)) = true := decide_eq_true (by omega)
        have hlN : decide (i < m) = true := decide_eq_true hl
        have hlI : (i : Int) < (m : Int) := by omega
        have hi0' : (0 : Int) ≤ (i : Int) := by omega
        obtain ⟨i1, hi1⟩ : ∃ i1, i + 1 = i1 := ⟨_, rfl⟩
        have wk1 : IntKind.i64.wrap ((i : Int) + 1) = (i1 : Int) := by rw [IntKind.wrap_i64]; omega
        obtain ⟨y, hy⟩ : ∃ y, ws[i]? = some y := ⟨_, List.getElem?_eq_getElem (by omega)⟩
        obtain ⟨z1, z2⟩ := HZ.out (i + 1) y (by simpa using hy)
        have hyt := ht y (List.mem_of_getElem? hy)
        have hstep := readP_step (k := k) (s := s) hy (i + 1)
        rw [hi1] at hread hstep
        obtain ⟨E, hE⟩ : ∃ E, (takeP s (toldP k i1) y.2).2 = E := ⟨_, rfl⟩
        obtain ⟨s', hs'⟩ : ∃ s', (takeP s (toldP k i1) y.2).1 = s' := ⟨_, rfl⟩
        have hslen := takeP_len s (toldP k i1) y.2
        rw [hs'] at hslen
        rw [hE, hs'] at hstep
        have e2 : (i + 1) * 2 = 2 + i * 2 := by omega
        rw [e2] at z1 z2
        replace z1 := q.keep z1
        replace z2 := q.keep z2
        obtain ⟨YA, hYA⟩ : ∃ YA, y.1 = YA := ⟨_, rfl⟩
        rw [hYA] at z1 hstep
        have htold : toldP k i1 ≤ 4 := by unfold toldP; repeat' split
                                          all_goals omega
        have cT := fun wB' (q' : B wi wB') => take_any w wB' (q.trans q') S (by rw [hRb]; omega) s wv (toldP k i1) htold y.2 hyt (by rw [hRb]; exact hU.keep q') (by omega)
        rw [hE, hs', hRb] at cT
        obtain ⟨YS, hYS⟩ : ∃ YS, strB y.2 = YS := ⟨_, rfl⟩
        rw [hYS] at z2 cT
        have qb : B wi (wi.alloc (.cells #[.int .i64 (YA : Int), .string YS] 96)) := (B.refl _).alloc _ _
        have oB := obj_new wi (.cells #[.int .i64 (YA : Int), .string YS] 96)
        have oRB := qb.obj oRi
        have q2 := q.trans qb
        replace cT := fun wB' (q' : B (wi.alloc (.cells #[.int .i64 (YA : Int), .string YS] 96)) wB') => cT wB' (qb.trans q')
        have HH := Lib.hid (And.intro hread (And.intro hstep (And.intro hlen (And.intro hslen (And.intro hl hi1)))))
        have hU2 := hU.keep qb
        have hRB : ¬ R = wi.heap.size := by have := obj_lt oRi; omega
        have hBR : ¬ wi.heap.size = R := fun e => hRB e.symm
        clear hread hstep hlen hslen hl hi hE hs' hYA hYS hy hyt e2 q oRi hU htold qb
        go_wp2_with fail
        generalize (wi.alloc (.cells #[.int .i64 (YA : Int), .string YS] 96)) = wB at *
        generalize wi.heap.size = BB at *
        have y1 : wB.cell? ⟨BB, 1, none⟩ = some (.string YS) := obj_cell oB 1
        have qd : B wB wB.drew := (B.refl _).drew
        clear z1 z2
        by_cases hE0 : E = 0
        · have hEB : ((E : Int) != 0) = false := by simp; omega
          refine wp_region_noPanic ?_
          refine wp_region_gate (S := fun w' => w'.cell? ⟨BB, 1, none⟩ = some (.string YS) ∧ B wB w') 6 [(0, 3), (1, 3), (2, 3), (4, 3), (5, 0), (3, 2), (6, 4), (7, 3)] [0, 0, 2, 5, 0, 16, 40, 127] [0, 0, 2, 5, 0, 16, 40, 64] [0, 0, 0, 0, 0, 224, 0, 0] (by kernel_rfl) (by kernel_rfl) (fun _ _ _ _ _ h => h) ?_ (fun hH => ?_)
          · exact ⟨qd.keep y1, qd⟩
          refine wpSeqG_free (d := 46) (v := ?_) rfl rfl (by kernel_rfl) (fun w => ?_) ?_
          rotate_left
          · go_simp <;> with_reducible rfl
          dsimp only [List.set_cons_zero, List.set_cons_succ]
          refine wpSeqG_free (d := 47) (v := ?_) rfl rfl (by kernel_rfl) (fun w => ?_) ?_
          rotate_left
          · go_simp <;> with_reducible rfl
          dsimp only [List.set_cons_zero, List.set_cons_succ]
          refine wpSeqG_free (d := 48) (v := ?_) rfl rfl (by kernel_rfl) (fun w => ?_) ?_
          rotate_left
          · go_simp <;> with_reducible rfl
          dsimp only [List.set_cons_zero, List.set_cons_succ]
          refine wpSeqG_free (d := 50) (v := ?_) rfl rfl (by kernel_rfl) (fun w => ?_) ?_
          rotate_left
          · go_simp <;> with_reducible rfl
          dsimp only [List.set_cons_zero, List.set_cons_succ]
          refine wpSeqG_take (d := 51) (v := ?_) rfl rfl (by kernel_rfl) (fun w hS => ?_) ?_
          rotate_left
          · go_simp <;> with_reducible rfl
          dsimp only [List.set_cons_zero, List.set_cons_succ]
          refine wpSeqG_call rfl (by kernel_rfl) (fun K hK => ?_)
          go_simp
          (with_reducible refine (ptold_any k i1 hk6 _).mono ?_)
          rintro e w' ⟨rfl, rfl⟩
          refine hK.out _ _ hH (fun hH => ?_)
          clear hK
          refine wpSeqG_gate rfl (by kernel_rfl) (fun K hK => ?_)
          go_simp
          (with_reducible refine (cT _ hH.2).mono ?_)
          rintro e w' ⟨rfl, hq⟩
          refine hK.out _ _ ?_
          clear hK
          refine wpSeqG_free (d := 13) (v := ?_) rfl rfl (by kernel_rfl) (fun w => ?_) ?_
          rotate_left
          · go_simp <;> with_reducible rfl
          dsimp only [List.set_cons_zero, List.set_cons_succ]
          refine wpSeqG_done ?_
          refine NoPanic.normal ?_
          clear cT
          obtain ⟨wv', hU7⟩ := hq.1 hE0
          have HN := Lib.hid (And.intro hU7 (And.intro (hq.2.1.toB q2.drew (Nat.le_of_eq hRb)) (And.intro (hq.2.2 _ _ hRS oRB) hE0)))
          clear hq hU7 oRB oB y1 q2 qd hU2 hH hE0
          go_wp2
          go_roundw
          case rel => exact ⟨i + 1, s', wv', by have := HH.out.2.2.2.2.1; omega, by rw [HH.out.2.2.2.2.2], by rw [← HH.out.1, HH.out.2.1, if_pos HN.out.2.2.2, HH.out.2.2.2.2.2], by have h1 := HH.out.2.2.1; have h2 := HH.out.2.2.2.1; omega, HN.out.1, HN.out.2.1, HN.out.2.2.1⟩
          case measure => have h1 := HH.out.2.2.2.2.1; have h2 := HH.out.2.2.2.2.2; simp [intOf]; omega
        · have hEB : ((E : Int) != 0) = true := by simp; omega
          have HE : Hid (lineP had (x :: ws) = .error (YA, E)) := Lib.hid (by rw [hL.out, ← HH.out.1, HH.out.2.1, if_neg hE0])
          clear hE0
          refine wp_region_noPanic ?_
          refine wp_region_gate (S := fun w' => w'.cell? ⟨BB, 1, none⟩ = some (.string YS) ∧ B wB w') 6 [(0, 3), (1, 3), (2, 3), (4, 3), (5, 0), (3, 2), (6, 4), (7, 3)] [0, 0, 2, 5, 0, 16, 40, 127] [0, 0, 2, 5, 0, 16, 40, 64] [0, 0, 0, 0, 0, 224, 0, 0] (by kernel_rfl) (by kernel_rfl) (fun _ _ _ _ _ h => h) ?_ (fun hH => ?_)
          · exact ⟨qd.keep y1, qd⟩
          refine wpSeqG_free (d := 46) (v := ?_) rfl rfl (by kernel_rfl) (fun w => ?_) ?_
          rotate_left
          · go_simp <;> with_reducible rfl
          dsimp only [List.set_cons_zero, List.set_cons_succ]
          refine wpSeqG_free (d := 47) (v := ?_) rfl rfl (by kernel_rfl) (fun w => ?_) ?_
          rotate_left
          · go_simp <;> with_reducible rfl
          dsimp only [List.set_cons_zero, List.set_cons_succ]
          refine wpSeqG_free (d := 48) (v := ?_) rfl rfl (by kernel_rfl) (fun w => ?_) ?_
          rotate_left
          · go_simp <;> with_reducible rfl
          dsimp only [List.set_cons_zero, List.set_cons_succ]
          refine wpSeqG_free (d := 50) (v := ?_) rfl rfl (by kernel_rfl) (fun w => ?_) ?_
          rotate_left
          · go_simp <;> with_reducible rfl
          dsimp only [List.set_cons_zero, List.set_cons_succ]
          refine wpSeqG_take (d := 51) (v := ?_) rfl rfl (by kernel_rfl) (fun w hS => ?_) ?_
          rotate_left
          · go_simp <;> with_reducible rfl
          dsimp only [List.set_cons_zero, List.set_cons_succ]
          refine wpSeqG_call rfl (by kernel_rfl) (fun K hK => ?_)
          go_simp
          (with_reducible refine (ptold_any k i1 hk6 _).mono ?_)
          rintro e w' ⟨rfl, rfl⟩
          refine hK.out _ _ hH (fun hH => ?_)
          clear hK
          refine wpSeqG_gate rfl (by kernel_rfl) (fun K hK => ?_)
          go_simp
          (with_reducible refine (cT _ hH.2).mono ?_)
          rintro e w' ⟨rfl, hq⟩
          refine hK.out _ _ ?_
          clear hK
          refine wpSeqG_free (d := 13) (v := ?_) rfl rfl (by kernel_rfl) (fun w => ?_) ?_
          rotate_left
          · go_simp <;> with_reducible rfl
          dsimp only [List.set_cons_zero, List.set_cons_succ]
          refine wpSeqG_done ?_
          refine NoPanic.normal ?_
          clear cT
          have oR7 := hq.2.2 _ _ hRS oRB
          have oB7 := hq.2.1.objc oB (by decide)
          have q7 := hq.2.1.toB q2.drew (Nat.le_of_eq hRb)
          have y0 : w'.cell? ⟨BB, 0, none⟩ = some (.int .i64 (YA : Int)) := obj_cell oB7 0
          have b0 := obj_cell oR7 0
          have f0 := obj_free oR7 0
          have b1 := obj_cell oR7 1
          have f1 := obj_free oR7 1
          have b2 := obj_cell oR7 2
          have f2 := obj_free oR7 2
          have b3 := obj_cell oR7 3
          have f3 := obj_free oR7 3
          have b4 := obj_cell oR7 4
          have f4 := obj_free oR7 4
          simp only [List.getElem?_toArray, List.getElem?_cons_zero, List.getElem?_cons_succ] at b0 b1 b2 b3 b4
          clear hq oB7 y1 oRB oB qd hU2 q2 hH
          go_wp2_with fail
          go_region
          go_wp2
          have ob6 := obj_five oR7 (.int .i64 0) (.string ⟨#[]⟩) (.slice none 0 0) (.int .i64 0) (.int .i64 0)
          have B6 := b_five q7 (Nat.le_of_eq hRb) (.int .i64 0) (.string ⟨#[]⟩) (.slice none 0 0) (.int .i64 0) (.int .i64 0)
          generalize (((((w'.setCell ⟨R, 0, none⟩ (.int .i64 0)).setCell ⟨R, 1, none⟩ (.string ⟨#[]⟩)).setCell ⟨R, 2, none⟩ (.slice none 0 0)).setCell ⟨R, 3, none⟩ (.int .i64 0)).setCell ⟨R, 4, none⟩ (.int .i64 0)) = W6 at *
          have d0 := obj_cell ob6 0
          have d1 := obj_cell ob6 1
          have d2 := obj_cell ob6 2
          have d3 := obj_cell ob6 3
          have d4 := obj_cell ob6 4
          simp only [List.getElem?_toArray, List.getElem?_cons_zero, List.getElem?_cons_succ] at d0 d1 d2 d3 d4
          exact bodyPost_ret (v := .tuple #[.agg #[.int .i64 0, .string ⟨#[]⟩, .slice none 0 0, .int .i64 0, .int .i64 0], .int .i64 (YA : Int), .int .i64 (E : Int)]) (by simp [results, Tryd.results32, go_sem, d0, d1, d2, d3, d4]) rfl (.inr ⟨YA, E, HE.out, rfl, B6.drew⟩)
      · have hlB : decide ((i : Int) < (m : Int)) = false := decide_eq_false (by omega)
        have hlN : decide (i < m) = false := decide_eq_false hl
        have HE : Hid (lineP had (x :: ws) = .ok s) := Lib.hid (by rw [hL.out, ← hread, List.drop_eq_nil_of_le (by omega)]; rfl)
        obtain ⟨K, N, WS, V, M⟩ := s
        obtain ⟨oSi, hrow⟩ := hU
        simp only at oSi hrow
        obtain ⟨so, sc, rfl⟩ := own_slice hrow
        have p0 := obj_cell oSi 0
        have p1 := obj_cell oSi 1
        have p2 := obj_cell oSi 2
        have p3 := obj_cell oSi 3
        have p4 := obj_cell oSi 4
        simp only [List.getElem?_toArray, List.getElem?_cons_zero, List.getElem?_cons_succ] at p0 p1 p2 p3 p4
        obtain ⟨oR9, hoR9⟩ : ∃ z : Unit, True := ⟨(), trivial⟩
        clear oR9 hoR9
        have oR9 := oRi
        have hsn : S ≠ R := fun e => hRS e.symm
        have b0 := obj_cell oR9 0
        have f0 := obj_free oR9 0
        have b1 := obj_cell oR9 1
        have f1 := obj_free oR9 1
        have b2 := obj_cell oR9 2
        have f2 := obj_free oR9 2
        have b3 := obj_cell oR9 3
        have f3 := obj_free oR9 3
        have b4 := obj_cell oR9 4
        have f4 := obj_free oR9 4
        simp only [List.getElem?_toArray, List.getElem?_cons_zero, List.getElem?_cons_succ] at b0 b1 b2 b3 b4
        obtain ⟨wl, hwl⟩ : ∃ wl, WS.length = wl := ⟨_, rfl⟩
        have HX := Lib.hid (And.intro hrow oSi)
        rw [hwl] at p2
        clear hread hlen hl hi oSi hrow oRi
        go_wp2_with fail
        go_wp2
        have ob6 := obj_five oR9 (.int .i64 K) (.string N) (.slice so wl sc) (.int .i64 V) (.int .i64 M)
        have B6 := b_five q (Nat.le_of_eq hRb) (.int .i64 K) (.string N) (.slice so wl sc) (.int .i64 V) (.int .i64 M)
        have HR6 := Lib.hid (ownsRow_set (ownsRow_set (ownsRow_set (ownsRow_set (ownsRow_set HX.out.1 oR9 (by decide) 0 (.int .i64 K)) (obj_set oR9 0 _) (by decide) 1 (.string N)) (obj_set (obj_set oR9 0 _) 1 _) (by decide) 2 (.slice so wl sc)) (obj_set (obj_set (obj_set oR9 0 _) 1 _) 2 _) (by decide) 3 (.int .i64 V)) (obj_set (obj_set (obj_set (obj_set oR9 0 _) 1 _) 2 _) 3 _) (by decide) 4 (.int .i64 M))
        generalize (((((wi.setCell ⟨R, 0, none⟩ (.int .i64 K)).setCell ⟨R, 1, none⟩ (.string N)).setCell ⟨R, 2, none⟩ (.slice so wl sc)).setCell ⟨R, 3, none⟩ (.int .i64 V)).setCell ⟨R, 4, none⟩ (.int .i64 M)) = W6 at *
        have d0 := obj_cell ob6 0
        have d1 := obj_cell ob6 1
        have d2 := obj_cell ob6 2
        have d3 := obj_cell ob6 3
        have d4 := obj_cell ob6 4
        simp only [List.getElem?_toArray, List.getElem?_cons_zero, List.getElem?_cons_succ] at d0 d1 d2 d3 d4
        exact bodyPost_ret (v := .tuple #[.agg #[.int .i64 K, .string N, .slice so wl sc, .int .i64 V, .int .i64 M], .int .i64 0, .int .i64 0]) (by simp [results, Tryd.results32, go_sem, d0, d1, d2, d3, d4]) rfl (.inl ⟨⟨K, N, WS, V, M⟩, .slice so WS.length sc, HE.out, (by rw [hwl]), (by rw [hRb]; exact HR6.out), B6⟩)
end Go.Proofs.YtnmcgleanpdlmaaDoor

namespace Go.Proofs.YtnmcgleanpdlmaaDoor
open Go.RowKit
set_option linter.unusedVariables false
theorem intInfoP : (Tryd.prog.info? 3).map (fun i => (i.zero, i.size, i.bytes)) = some (some (.int .i64 0), 1, 8) := by kernel_rfl
theorem flatI_snoc (l : List Nat) (x : Nat) : flatI (l ++ [x]) = flatI l ++ [.int .i64 ((x : Nat) : Int)] := by simp [flatI]
set_option maxRecDepth 100000 in
set_option maxHeartbeats 4000000 in
theorem offsets_any (v : Value) (x : Wd) (ws : List Wd) (w : World) (h : IsWords w v (x :: ws)) (hz : ws.length ≤ 65536) : Calls Tryd.prog 33 #[v] w fun e w' => ∃ u, e = .returned u ∧ w'.ownsRow w.heap.size 3 1 u (x :: ws).length (flatI ((x :: ws).map (·.1))) ∧ B w w' := by
  obtain ⟨i0, hi0, hz0, hz1, hz2⟩ := info_of intInfoP
  obtain ⟨g, lc, rfl, hle, hm, hlt, z⟩ := h.full (by simp)
  have hL : (x :: ws).length ≤ 65537 := by simp; omega
  generalize x :: ws = L at *
  obtain ⟨n, hn⟩ : ∃ n, L.length = n := ⟨_, rfl⟩
  have hnz : n ≤ 65537 := by omega
  rw [hn] at hle ⊢
  have hb16 : i0.bytes * n ≤ 281474976710656 := by rw [hz2]; omega
  have hbml : n ≤ maxLen := by unfold maxLen; omega
  have hw0 : g < w.heap.size := hlt
  clear h hz hlt hle
  go_enter Tryd.func33, Tryd.ntmps33
  go_wp2_with (at_make; refine wpList_make_own _ rfl _ _ 94 rfl w.heap.size 3 i0 _ 1 Tryd.underlying94 hi0 hz0 hz1 .i64 .i64 _ n rfl rfl rfl hb16 hbml (Nat.le_refl _) ?_; intro wm hrow hgrow; have qm := (B.refl w).grownBy hgrow (fun _ h => by cases h); clear hgrow)
  generalize hgg : w.heap.size = b0 at *
  obtain ⟨W, rfl⟩ : ∃ W : World, W = wm := ⟨_, rfl⟩
  go_loopw [3, 11] (fun av iv wr => ∃ (i c gr : Nat), i ≤ n ∧ iv = .int .i64 i ∧ av = .slice (some ⟨gr, 0, none⟩) i c ∧ wr.ownsRow b0 3 1 (.slice (some ⟨gr, 0, none⟩) i c) i (flatI ((L.take i).map (·.1))) ∧ B w wr) (fun _ iv _ => n + 1 - (intOf iv).toNat)
  case atStart => exact ⟨0, n, b0, Nat.zero_le _, rfl, rfl, hrow, qm⟩
  case round =>
    clear hrow qm
    obtain ⟨i, c, gr, hi, rfl, rfl, hown, q⟩ := hrel
    obtain ⟨wi, rfl⟩ : ∃ wi : World, wi = wr := ⟨_, rfl⟩
    by_cases hl : i < n
    · have hlB : decide ((i : Int) < (n : Int)) = true := decide_eq_true (by omega)
      have hlN : decide (i < n) = true := decide_eq_true hl
      have hlI : (i : Int) < (n : Int) := by omega
      have hi0' : (0 : Int) ≤ (i : Int) := by omega
      have wk1 : IntKind.i64.wrap ((i : Int) + 1) = (i : Int) + 1 := by rw [IntKind.wrap_i64]; omega
      obtain ⟨y, hy⟩ : ∃ y, L[i]? = some y := ⟨_, List.getElem?_eq_getElem (by omega)⟩
      obtain ⟨z1, z2⟩ := z i y hy
      replace z1 := q.keep z1
      replace z2 := q.keep z2
      have hup : flatI ((L.take i).map (·.1)) ++ [.int .i64 ((y.1 : Nat) : Int)] = flatI ((L.take (i + 1)).map (·.1)) := by
        rw [List.take_add_one, hy, List.map_append, Option.toList_some, List.map_cons, List.map_nil, flatI_snoc]
      obtain ⟨YA, hYA⟩ : ∃ YA, y.1 = YA := ⟨_, rfl⟩
      rw [hYA] at z1 hup
      have HU := Lib.hid (And.intro hup hl)
      have qb : B wi (wi.alloc (.cells #[.int .i64 (YA : Int), .string (strB y.2)] 96)) := (B.refl _).alloc _ _
      have oB := obj_new wi (.cells #[.int .i64 (YA : Int), .string (strB y.2)] 96)
      have hownB := row_keep hown qb
      have q2 := q.trans qb
      have hbs := q.below.size
      have qc : B (wi.alloc (.cells #[.int .i64 (YA : Int), .string (strB y.2)] 96)) ((wi.alloc (.cells #[.int .i64 (YA : Int), .string (strB y.2)] 96)).alloc (.cells #[.int .i64 (YA : Int)] 3)) := (B.refl _).alloc _ _
      have own3 := row_keep hownB qc
      have q3 := q2.trans qc
      have hb3 : b0 ≤ ((wi.alloc (.cells #[.int .i64 (YA : Int), .string (strB y.2)] 96)).alloc (.cells #[.int .i64 (YA : Int)] 3)).heap.size := by have := q3.below.size; omega
      clear hup hy hYA hl z hn qb oB hownB q2 qc hown q hbs
      go_wp2_with (at_builtin; refine wpList_append_lies _ rfl _ _ 94 rfl b0 3 i0 _ 1 8 Tryd.underlying94 hi0 hz0 hz1 hz2 rfl (by omega) (.slice (some ⟨gr, 0, none⟩) i c) i (flatI ((L.take i).map (·.1))) rfl own3 ⟨_, 0, none⟩ 1 1 [.int .i64 (YA : Int)] rfl rfl (newest (by simp)) (fun u hu => by simp at hu; rw [hu]; rfl) (by omega) (by unfold maxLen; omega) (by omega) hb3 _ rfl ?_; intro gb cp W4 hown4 hgrow hat4 hlt4; have B4 := q3.grownBy hgrow (fun x hx => (by rw [hgg]; exact (own3.lt x hx).1)); rw [HU.out.1] at hown4; clear hgrow hat4 hlt4 own3 q3 hb3; replace B4 := Lib.hid B4; go_wp2_with fail)
      exact ⟨⟨i + 1, cp, gb, by have := HU.out.2; omega, by go_num, rfl, hown4, B4.out⟩, by have := HU.out.2; simp [intOf]; omega⟩
    · have hlB : decide ((i : Int) < (n : Int)) = false := decide_eq_false (by omega)
      have hlN : decide (i < n) = false := decide_eq_false hl
      obtain rfl : i = n := by omega
      rw [List.take_of_length_le (by omega)] at hown
      have HZ := Lib.hid (And.intro hown q)
      clear hown q hl hi
      go_wp2
      go_ret
      refine ⟨_, rfl, ?_, HZ.out.2⟩
      rw [hgg]
      exact HZ.out.1
end Go.Proofs.YtnmcgleanpdlmaaDoor

namespace Go.Proofs.YtnmcgleanpdlmaaDoor
open Go.RowKit
theorem results_tmp4 {fn : Func} {t u v x : Tmp} (h : fn.results = #[.tmp t, .tmp u, .tmp v, .tmp x]) (tmps : Array Value) (P : Program) (w : World) :
    (results fn tmps).run P w = .ok (.tuple #[tmps.getD t undef, tmps.getD u undef, tmps.getD v undef, tmps.getD x undef]) w := by
  simp [results, h]
end Go.Proofs.YtnmcgleanpdlmaaDoor

namespace Go.Proofs.YtnmcgleanpdlmaaDoor
open Go.RowKit
set_option linter.unusedVariables false
theorem stepInfoP : (Tryd.prog.info? 27).map (fun i => (i.zero, i.size, i.bytes)) = some (some (.agg #[.int .i64 0, .string ⟨#[]⟩, .slice none 0 0, .int .i64 0, .int .i64 0]), 5, 64) := by kernel_rfl
theorem intsInfoP : (Tryd.prog.info? 94).map (fun i => (i.zero, i.size, i.bytes)) = some (some (.slice none 0 0), 1, 24) := by kernel_rfl
theorem own_grownU {w w' : World} {b1 b2 : Nat} {e1 e2 : TypeId} {s1 s2 n1 n2 : Nat} {v1 v2 : Value} {x1 x2 : List Value} (h : w.ownsRow b1 e1 s1 v1 n1 x1) (hg : w.grownBy w' v2.ownBlock) (hr : w.ownsRow b2 e2 s2 v2 n2 x2) (he : e1 ≠ e2) : w'.ownsRow b1 e1 s1 v1 n1 x1 := by
  refine ⟨h.1, ?_⟩
  rcases h.2 with hn | ⟨g, cap, cur, rfl, hb, ho, rest⟩
  · exact .inl hn
  · exact .inr ⟨g, cap, cur, rfl, hb, obj_grown hg ho (far_ownU ho hr he), rest⟩
theorem own_lowU {w : World} {base base' : Nat} {e : TypeId} {size n : Nat} {v : Value} {xs : List Value} (h : w.ownsRow base e size v n xs) (hb : base' ≤ base) : w.ownsRow base' e size v n xs := by
  refine ⟨h.1, ?_⟩
  rcases h.2 with hn | ⟨g, cap, cur, rfl, hbg, rest⟩
  · exact .inl hn
  · exact .inr ⟨g, cap, cur, rfl, Nat.le_trans hb hbg, rest⟩
structure StP (w : World) (base : Nat) (sv : Value) (S : List Sp) (vs : List Value) (ov : Value) (P : List (List Nat)) (us : List Value) : Prop where
  sl : vs.length = S.length
  so : w.ownsRow base 27 5 sv S.length (flatSp S vs)
  sr : ∀ (j : Nat) u s, vs[j]? = some u → S[j]? = some s → w.ownsRow base 36 3 u s.w.length (flatWp s.w)
  pl : us.length = P.length
  po : w.ownsRow base 94 1 ov P.length us
  pr : ∀ (j : Nat) u l, us[j]? = some u → P[j]? = some l → w.ownsRow base 3 1 u l.length (flatI l)
theorem StP.nil (w : World) (base : Nat) : StP w base (.slice none 0 0) [] [] (.slice none 0 0) [] [] :=
  ⟨rfl, World.ownsRow_nil _ _ _ _, fun j u s h => by simp at h, rfl, World.ownsRow_nil _ _ _ _, fun j u s h => by simp at h⟩
section
variable {w w' : World} {base : Nat} {sv ov : Value} {S : List Sp} {vs us : List Value} {P : List (List Nat)}
theorem StP.keep (h : StP w base sv S vs ov P us) (q : B w w') : StP w' base sv S vs ov P us :=
  ⟨h.sl, row_keep h.so q, fun j u s hu hs => row_keep (h.sr j u s hu hs) q, h.pl, row_keep h.po q, fun j u s hu hs => row_keep (h.pr j u s hu hs) q⟩
theorem snoc_at {α : Type} {l : List α} {a x : α} {j n : Nat} (hn : l.length = n) (h : (l ++ [a])[j]? = some x) : (j < n ∧ l[j]? = some x) ∨ (j = n ∧ a = x) := by
  have hj := (List.getElem?_eq_some_iff.1 h).1
  rw [List.length_append, List.length_cons, List.length_nil] at hj
  rcases Nat.lt_or_ge j l.length with hlt | hge
  · rw [List.getElem?_append_left hlt] at h
    exact .inl ⟨by omega, h⟩
  · obtain rfl : j = l.length := by omega
    rw [List.getElem?_append_right (Nat.le_refl _), Nat.sub_self] at h
    exact .inr ⟨hn, by simpa using h⟩
theorem StP.addS (h : StP w base sv S vs ov P us) {sv' u : Value} {s : Sp} (hg : w.grownBy w' sv.ownBlock) (ho : w'.ownsRow base 27 5 sv' (S.length + 1) (flatSp S vs ++ s.cells u)) (hu : w.ownsRow base 36 3 u s.w.length (flatWp s.w)) :
    StP w' base sv' (S ++ [s]) (vs ++ [u]) ov P us := by
  refine ⟨by simp [h.sl], ?_, fun j u' s' h1 h2 => ?_, h.pl, own_grownU h.po hg h.so (by decide), fun j u' l' h1 h2 => own_grownU (h.pr j u' l' h1 h2) hg h.so (by decide)⟩
  · rw [flatSp_snoc _ _ _ _ h.sl, List.length_append]
    exact ho
  · rcases snoc_at h.sl h1 with ⟨a1, a2⟩ | ⟨a1, rfl⟩
    · rcases snoc_at rfl h2 with ⟨b1, b2⟩ | ⟨b1, rfl⟩
      · exact own_grownU (h.sr j u' s' a2 b2) hg h.so (by decide)
      · omega
    · rcases snoc_at rfl h2 with ⟨b1, b2⟩ | ⟨b1, rfl⟩
      · omega
      · exact own_grownU hu hg h.so (by decide)
theorem StP.addP (h : StP w base sv S vs ov P us) {ov' u : Value} {l : List Nat} (hg : w.grownBy w' ov.ownBlock) (ho : w'.ownsRow base 94 1 ov' (P.length + 1) (us ++ [u])) (hu : w.ownsRow base 3 1 u l.length (flatI l)) :
    StP w' base sv S vs ov' (P ++ [l]) (us ++ [u]) := by
  refine ⟨h.sl, own_grownU h.so hg h.po (by decide), fun j u' s' h1 h2 => own_grownU (h.sr j u' s' h1 h2) hg h.po (by decide), by simp [h.pl], ?_, fun j u' s' h1 h2 => ?_⟩
  · rw [List.length_append]
    exact ho
  · rcases snoc_at h.pl h1 with ⟨a1, a2⟩ | ⟨a1, rfl⟩
    · rcases snoc_at rfl h2 with ⟨b1, b2⟩ | ⟨b1, rfl⟩
      · exact own_grownU (h.pr j u' s' a2 b2) hg h.po (by decide)
      · omega
    · rcases snoc_at rfl h2 with ⟨b1, b2⟩ | ⟨b1, rfl⟩
      · omega
      · exact own_grownU hu hg h.po (by decide)
theorem StP.isS (h : StP w base sv S vs ov P us) : IsSps w sv S := by
  have hown := h.so
  rcases hown.2 with ⟨h0, h1⟩ | ⟨g, cap, cur, rfl, _, _, h1, h2, _⟩
  · exact .inl ⟨h0, List.length_eq_zero_iff.1 (by omega)⟩
  · refine .inr ⟨⟨g, 0, none⟩, cap, rfl, h1, h2, fun i s hs => ?_⟩
    have hi : i < S.length := (List.getElem?_eq_some_iff.1 hs).1
    obtain ⟨u, hu⟩ : ∃ u, vs[i]? = some u := ⟨_, List.getElem?_eq_getElem (by rw [h.sl]; exact hi)⟩
    have hc : ∀ k, k < 5 → w.cell? ⟨g, i * 5 + k, none⟩ = (s.cells u)[k]? := fun k hk => by
      rw [h.so.cellAt (i * 5 + k) (by omega)]
      exact flatSp_get S vs i k s u h.sl hs hu hk
    have ha : (⟨g, 0, none⟩ : Addr).add (i * 5) = ⟨g, i * 5, none⟩ := addz g (i * 5)
    rw [ha]
    exact ⟨hc 0 (by omega), hc 1 (by omega), ⟨u, hc 2 (by omega), isWps_own (h.sr i u s hu hs)⟩, hc 3 (by omega), hc 4 (by omega)⟩
theorem StP.isP (h : StP w base sv S vs ov P us) : IsPls w ov P := by
  have hown := h.po
  rcases hown.2 with ⟨h0, h1⟩ | ⟨g, cap, cur, rfl, _, _, h1, h2, _⟩
  · exact .inl ⟨h0, List.length_eq_zero_iff.1 (by omega)⟩
  · refine .inr ⟨g, cap, rfl, h1, h2, fun i l hl => ?_⟩
    have hi : i < P.length := (List.getElem?_eq_some_iff.1 hl).1
    obtain ⟨u, hu⟩ : ∃ u, us[i]? = some u := ⟨_, List.getElem?_eq_getElem (by rw [h.pl]; exact hi)⟩
    exact ⟨u, by rw [h.po.cellAt i (by omega)]; exact hu, isIs_own (h.pr i u l hu hl)⟩
end
/-- What lines tell. -/
def ProtoRes (LL : List (List Wd)) (w : World) (e : Ending) (w' : World) : Prop :=
  (∃ S sv ov, parseP LL [] = .ok S ∧ e = .returned (.tuple #[sv, ov, .int .i64 0, .int .i64 0]) ∧ IsSps w' sv S ∧ IsPls w' ov (placesP LL) ∧ B w w') ∨
  (∃ p n : Nat, parseP LL [] = .error (p, n) ∧ e = .returned (.tuple #[.slice none 0 0, .slice none 0 0, .int .i64 (p : Int), .int .i64 (n : Int)]) ∧ B w w')
end Go.Proofs.YtnmcgleanpdlmaaDoor
