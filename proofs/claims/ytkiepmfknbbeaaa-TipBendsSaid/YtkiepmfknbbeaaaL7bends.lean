/-
  Layer 7: the walk of TipBends.
-/
import Derived.Test.YtkiepmfknbbeaaaL7low
import Derived.Test.YtkiepmfknbbeaaaSeat2
import Derived.Lib.MinMax
import Derived.WalkSpells
namespace Go.Proofs.Ytkiepmfknbbeaaa
open Go.RowKit

set_option maxRecDepth 100000 in
set_option maxHeartbeats 8000000 in
theorem bends_law {T : World → Value → List (Int × Int) → Prop} (c : TabC T) (k what v : Int) (s : ByteArray) (hk : (Lit.int .u8 k).wf = true) (hw : (Lit.int .u8 what).wf = true) (w : World) :
    Calls Try.prog 6 #[.int .u8 k, .int .u8 what, .int .i64 v, .string s] w fun e w' => e = .returned (.bool true) ∧ B w w' := by
  obtain ⟨k1, k2⟩ := u8_wf hk
  obtain ⟨w1, w2⟩ := u8_wf hw
  clear hk hw
  have c0 := fun w => known7_any c w
  have cD := fun w => deck_tip k k k k ⟨k1, k2⟩ ⟨k1, k2⟩ ⟨k1, k2⟩ ⟨k1, k2⟩ w
  have cK := fun w => shape_any k k1 k2 w
  have hlk : 1 ≤ (shapeOf (k % 6).toNat).length := (right_all (shape_right (k % 6).toNat)).1
  have hfld := fun x y z a b c d e f w => deck_tips x y z a b c d e f w
  generalize shapeOf (k % 6).toNat = lk at *
  generalize cap7 k = cap at *
  generalize filt7 k = filt at *
  generalize err7 k = err at *
  generalize nameT1 = nm at *
  generalize outerOf (k % 3).toNat = lo at *
  by_cases hl : 30 < s.size
  · have hlB : decide ((30 : Int) < (s.size : Int)) = true := decide_eq_true (by omega)
    go_enter Try.func6, Try.ntmps6
    go_wp2_with fail
    refine (c0 _).mono ?_
    rintro e w1 ⟨rfl, g⟩
    go_wp2
    go_ret
    exact ⟨rfl, g⟩
  have hlB : decide ((30 : Int) < (s.size : Int)) = false := decide_eq_false (by omega)
  clear hl
  obtain ⟨m, em⟩ : ∃ m, what % 8 = m := ⟨_, rfl⟩
  have tm : what.tmod 8 = m := by rw [Int.tmod_eq_emod_of_nonneg (by omega)]; exact em
  have hm : m = 0 ∨ m = 1 ∨ m = 2 ∨ m = 3 ∨ m = 4 ∨ m = 5 ∨ m = 6 ∨ m = 7 := by omega
  clear em w1 w2
  go_enter Try.func6, Try.ntmps6
  go_wp2_with fail
  refine (c0 _).mono ?_
  rintro e w1 ⟨rfl, g⟩
  clear c0
  go_wp2_with fail
  refine (cD _).mono ?_
  rintro e w3 ⟨wo, wn, wc, gb, gof, n, cp, oo, no, po, rfl, hn, f0, f1, f2, f3, f4, hs, q⟩
  replace g := g.trans q
  clear q cD
  have g0 := g.below.size
  rcases hm with em | em | em | em | em | em | em | em
  · subst em
    go_wp2_with fail
    have ob : (w3.alloc (.cells #[.string s, .int .i64 cap, .int .i64 filt, .int .i64 err, .slice oo no po] 24)).heap[w3.heap.size]? = some (.cells #[.string s, .int .i64 cap, .int .i64 filt, .int .i64 err, .slice oo no po] 24 (0, 0)) := obj_new _ _
    have qa : B w3 (w3.alloc (.cells #[.string s, .int .i64 cap, .int .i64 filt, .int .i64 err, .slice oo no po] 24)) := (B.refl _).alloc _ _
    replace g := g.trans qa
    replace hs := hs.keepB qa
    clear f0 f1 f2 f3 f4 qa hn
    generalize w3.alloc (.cells #[.string s, .int .i64 cap, .int .i64 filt, .int .i64 err, .slice oo no po] 24) = W at *
    generalize w3.heap.size = tb at *
    have cR := fun w h => tipright_any s cap filt err (.slice oo no po) lo w h
    have cE := fun w h => r8tipright_any s cap filt err (.slice oo no po) lo w h
    generalize tipB s cap filt err lo = bb at *
    have k0 := obj_cell ob 0
    have k1 := obj_cell ob 1
    have k2 := obj_cell ob 2
    have k3 := obj_cell ob 3
    have k4 := obj_cell ob 4
    replace g := g.drew
    refine wp_region_noPanic ?_
    refine wp_region_seq (S := fun w' => w'.cell? ⟨tb, 0, none⟩ = some (.string s) ∧ w'.cell? ⟨tb, 1, none⟩ = some (.int .i64 cap) ∧ w'.cell? ⟨tb, 2, none⟩ = some (.int .i64 filt) ∧ w'.cell? ⟨tb, 3, none⟩ = some (.int .i64 err) ∧ w'.cell? ⟨tb, 4, none⟩ = some (.slice oo no po) ∧ IsSecs w' (.slice oo no po) lo) [(0, 0), (2, 0), (1, 2), (3, 2), (4, 0), (5, 0)] [0, 1, 0, 6, 10, 31] [0, 1, 0, 4, 10, 16] (by kernel_rfl) (by kernel_rfl) (fun _ _ _ _ _ h => h) ?_ (fun hH => ?_)
    · exact ⟨k0, k1, k2, k3, k4, hs.keepB (B.refl _).drew⟩
    refine wpSeq_take (d := 63) (v := ?_) rfl rfl (by kernel_rfl) (fun w hS => ?_) ?_
    rotate_left
    · go_simp <;> with_reducible rfl
    dsimp only [List.set_cons_zero, List.set_cons_succ]
    refine wpSeq_take (d := 65) (v := ?_) rfl rfl (by kernel_rfl) (fun w hS => ?_) ?_
    rotate_left
    · go_simp <;> with_reducible rfl
    dsimp only [List.set_cons_zero, List.set_cons_succ]
    refine wpSeq_call rfl (by kernel_rfl) (fun K hK => ?_)
    go_simp
    (with_reducible refine (cR _ hH.2.2.2.2.2).mono ?_)
    rintro e w' ⟨rfl, hq⟩
    replace g := g.trans hq
    refine hK.out _ _ ?_ (fun hH => ?_)
    · exact ⟨hq.keep hH.1, hq.keep hH.2.1, hq.keep hH.2.2.1, hq.keep hH.2.2.2.1, hq.keep hH.2.2.2.2.1, hH.2.2.2.2.2.keepB hq⟩
    clear hK
    refine wpSeq_call rfl (by kernel_rfl) (fun K hK => ?_)
    go_simp
    (with_reducible refine (cE _ hH.2.2.2.2.2).mono ?_)
    rintro e w' ⟨rfl, hq⟩
    replace g := g.trans hq
    refine hK.out _ _ ?_ (fun hH => ?_)
    · exact ⟨hq.keep hH.1, hq.keep hH.2.1, hq.keep hH.2.2.1, hq.keep hH.2.2.2.1, hq.keep hH.2.2.2.2.1, hH.2.2.2.2.2.keepB hq⟩
    clear hK
    refine wpSeq_take (d := 67) (v := ?_) rfl rfl (by kernel_rfl) (fun w hS => ?_) ?_
    rotate_left
    · go_simp <;> with_reducible rfl
    dsimp only [List.set_cons_zero, List.set_cons_succ]
    refine wpSeq_take (d := 8) (v := ?_) rfl rfl (by kernel_rfl) (fun w hS => ?_) ?_
    rotate_left
    · go_simp <;> with_reducible rfl
    dsimp only [List.set_cons_zero, List.set_cons_succ]
    refine wpSeq_done ?_
    refine NoPanic.normal ?_
    go_wp2
    go_ret
    exact ⟨by simp, g⟩
  · subst em
    go_wp2_with fail
    have ob : (w3.alloc (.cells #[.string nm, .int .i64 v, .int .i64 filt, .int .i64 err, .slice oo no po] 24)).heap[w3.heap.size]? = some (.cells #[.string nm, .int .i64 v, .int .i64 filt, .int .i64 err, .slice oo no po] 24 (0, 0)) := obj_new _ _
    have qa : B w3 (w3.alloc (.cells #[.string nm, .int .i64 v, .int .i64 filt, .int .i64 err, .slice oo no po] 24)) := (B.refl _).alloc _ _
    replace g := g.trans qa
    replace hs := hs.keepB qa
    clear f0 f1 f2 f3 f4 qa hn
    generalize w3.alloc (.cells #[.string nm, .int .i64 v, .int .i64 filt, .int .i64 err, .slice oo no po] 24) = W at *
    generalize w3.heap.size = tb at *
    have cR := fun w h => tipright_any nm v filt err (.slice oo no po) lo w h
    have cE := fun w h => r8tipright_any nm v filt err (.slice oo no po) lo w h
    generalize tipB nm v filt err lo = bb at *
    have k0 := obj_cell ob 0
    have k1 := obj_cell ob 1
    have k2 := obj_cell ob 2
    have k3 := obj_cell ob 3
    have k4 := obj_cell ob 4
    replace g := g.drew
    refine wp_region_noPanic ?_
    refine wp_region_seq (S := fun w' => w'.cell? ⟨tb, 0, none⟩ = some (.string nm) ∧ w'.cell? ⟨tb, 1, none⟩ = some (.int .i64 v) ∧ w'.cell? ⟨tb, 2, none⟩ = some (.int .i64 filt) ∧ w'.cell? ⟨tb, 3, none⟩ = some (.int .i64 err) ∧ w'.cell? ⟨tb, 4, none⟩ = some (.slice oo no po) ∧ IsSecs w' (.slice oo no po) lo) [(0, 0), (2, 0), (1, 2), (3, 2), (4, 0), (5, 0)] [0, 1, 0, 6, 10, 31] [0, 1, 0, 4, 10, 16] (by kernel_rfl) (by kernel_rfl) (fun _ _ _ _ _ h => h) ?_ (fun hH => ?_)
    · exact ⟨k0, k1, k2, k3, k4, hs.keepB (B.refl _).drew⟩
    refine wpSeq_take (d := 63) (v := ?_) rfl rfl (by kernel_rfl) (fun w hS => ?_) ?_
    rotate_left
    · go_simp <;> with_reducible rfl
    dsimp only [List.set_cons_zero, List.set_cons_succ]
    refine wpSeq_take (d := 65) (v := ?_) rfl rfl (by kernel_rfl) (fun w hS => ?_) ?_
    rotate_left
    · go_simp <;> with_reducible rfl
    dsimp only [List.set_cons_zero, List.set_cons_succ]
    refine wpSeq_call rfl (by kernel_rfl) (fun K hK => ?_)
    go_simp
    (with_reducible refine (cR _ hH.2.2.2.2.2).mono ?_)
    rintro e w' ⟨rfl, hq⟩
    replace g := g.trans hq
    refine hK.out _ _ ?_ (fun hH => ?_)
    · exact ⟨hq.keep hH.1, hq.keep hH.2.1, hq.keep hH.2.2.1, hq.keep hH.2.2.2.1, hq.keep hH.2.2.2.2.1, hH.2.2.2.2.2.keepB hq⟩
    clear hK
    refine wpSeq_call rfl (by kernel_rfl) (fun K hK => ?_)
    go_simp
    (with_reducible refine (cE _ hH.2.2.2.2.2).mono ?_)
    rintro e w' ⟨rfl, hq⟩
    replace g := g.trans hq
    refine hK.out _ _ ?_ (fun hH => ?_)
    · exact ⟨hq.keep hH.1, hq.keep hH.2.1, hq.keep hH.2.2.1, hq.keep hH.2.2.2.1, hq.keep hH.2.2.2.2.1, hH.2.2.2.2.2.keepB hq⟩
    clear hK
    refine wpSeq_take (d := 67) (v := ?_) rfl rfl (by kernel_rfl) (fun w hS => ?_) ?_
    rotate_left
    · go_simp <;> with_reducible rfl
    dsimp only [List.set_cons_zero, List.set_cons_succ]
    refine wpSeq_take (d := 8) (v := ?_) rfl rfl (by kernel_rfl) (fun w hS => ?_) ?_
    rotate_left
    · go_simp <;> with_reducible rfl
    dsimp only [List.set_cons_zero, List.set_cons_succ]
    refine wpSeq_done ?_
    refine NoPanic.normal ?_
    go_wp2
    go_ret
    exact ⟨by simp, g⟩
  · subst em
    go_wp2_with fail
    have ob : (w3.alloc (.cells #[.string nm, .int .i64 cap, .int .i64 v, .int .i64 err, .slice oo no po] 24)).heap[w3.heap.size]? = some (.cells #[.string nm, .int .i64 cap, .int .i64 v, .int .i64 err, .slice oo no po] 24 (0, 0)) := obj_new _ _
    have qa : B w3 (w3.alloc (.cells #[.string nm, .int .i64 cap, .int .i64 v, .int .i64 err, .slice oo no po] 24)) := (B.refl _).alloc _ _
    replace g := g.trans qa
    replace hs := hs.keepB qa
    clear f0 f1 f2 f3 f4 qa hn
    generalize w3.alloc (.cells #[.string nm, .int .i64 cap, .int .i64 v, .int .i64 err, .slice oo no po] 24) = W at *
    generalize w3.heap.size = tb at *
    have cR := fun w h => tipright_any nm cap v err (.slice oo no po) lo w h
    have cE := fun w h => r8tipright_any nm cap v err (.slice oo no po) lo w h
    generalize tipB nm cap v err lo = bb at *
    have k0 := obj_cell ob 0
    have k1 := obj_cell ob 1
    have k2 := obj_cell ob 2
    have k3 := obj_cell ob 3
    have k4 := obj_cell ob 4
    replace g := g.drew
    refine wp_region_noPanic ?_
    refine wp_region_seq (S := fun w' => w'.cell? ⟨tb, 0, none⟩ = some (.string nm) ∧ w'.cell? ⟨tb, 1, none⟩ = some (.int .i64 cap) ∧ w'.cell? ⟨tb, 2, none⟩ = some (.int .i64 v) ∧ w'.cell? ⟨tb, 3, none⟩ = some (.int .i64 err) ∧ w'.cell? ⟨tb, 4, none⟩ = some (.slice oo no po) ∧ IsSecs w' (.slice oo no po) lo) [(0, 0), (2, 0), (1, 2), (3, 2), (4, 0), (5, 0)] [0, 1, 0, 6, 10, 31] [0, 1, 0, 4, 10, 16] (by kernel_rfl) (by kernel_rfl) (fun _ _ _ _ _ h => h) ?_ (fun hH => ?_)
    · exact ⟨k0, k1, k2, k3, k4, hs.keepB (B.refl _).drew⟩
    refine wpSeq_take (d := 63) (v := ?_) rfl rfl (by kernel_rfl) (fun w hS => ?_) ?_
    rotate_left
    · go_simp <;> with_reducible rfl
    dsimp only [List.set_cons_zero, List.set_cons_succ]
    refine wpSeq_take (d := 65) (v := ?_) rfl rfl (by kernel_rfl) (fun w hS => ?_) ?_
    rotate_left
    · go_simp <;> with_reducible rfl
    dsimp only [List.set_cons_zero, List.set_cons_succ]
    refine wpSeq_call rfl (by kernel_rfl) (fun K hK => ?_)
    go_simp
    (with_reducible refine (cR _ hH.2.2.2.2.2).mono ?_)
    rintro e w' ⟨rfl, hq⟩
    replace g := g.trans hq
    refine hK.out _ _ ?_ (fun hH => ?_)
    · exact ⟨hq.keep hH.1, hq.keep hH.2.1, hq.keep hH.2.2.1, hq.keep hH.2.2.2.1, hq.keep hH.2.2.2.2.1, hH.2.2.2.2.2.keepB hq⟩
    clear hK
    refine wpSeq_call rfl (by kernel_rfl) (fun K hK => ?_)
    go_simp
    (with_reducible refine (cE _ hH.2.2.2.2.2).mono ?_)
    rintro e w' ⟨rfl, hq⟩
    replace g := g.trans hq
    refine hK.out _ _ ?_ (fun hH => ?_)
    · exact ⟨hq.keep hH.1, hq.keep hH.2.1, hq.keep hH.2.2.1, hq.keep hH.2.2.2.1, hq.keep hH.2.2.2.2.1, hH.2.2.2.2.2.keepB hq⟩
    clear hK
    refine wpSeq_take (d := 67) (v := ?_) rfl rfl (by kernel_rfl) (fun w hS => ?_) ?_
    rotate_left
    · go_simp <;> with_reducible rfl
    dsimp only [List.set_cons_zero, List.set_cons_succ]
    refine wpSeq_take (d := 8) (v := ?_) rfl rfl (by kernel_rfl) (fun w hS => ?_) ?_
    rotate_left
    · go_simp <;> with_reducible rfl
    dsimp only [List.set_cons_zero, List.set_cons_succ]
    refine wpSeq_done ?_
    refine NoPanic.normal ?_
    go_wp2
    go_ret
    exact ⟨by simp, g⟩
  · subst em
    go_wp2_with fail
    have ob : (w3.alloc (.cells #[.string nm, .int .i64 cap, .int .i64 filt, .int .i64 v, .slice oo no po] 24)).heap[w3.heap.size]? = some (.cells #[.string nm, .int .i64 cap, .int .i64 filt, .int .i64 v, .slice oo no po] 24 (0, 0)) := obj_new _ _
    have qa : B w3 (w3.alloc (.cells #[.string nm, .int .i64 cap, .int .i64 filt, .int .i64 v, .slice oo no po] 24)) := (B.refl _).alloc _ _
    replace g := g.trans qa
    replace hs := hs.keepB qa
    clear f0 f1 f2 f3 f4 qa hn
    generalize w3.alloc (.cells #[.string nm, .int .i64 cap, .int .i64 filt, .int .i64 v, .slice oo no po] 24) = W at *
    generalize w3.heap.size = tb at *
    have cR := fun w h => tipright_any nm cap filt v (.slice oo no po) lo w h
    have cE := fun w h => r8tipright_any nm cap filt v (.slice oo no po) lo w h
    generalize tipB nm cap filt v lo = bb at *
    have k0 := obj_cell ob 0
    have k1 := obj_cell ob 1
    have k2 := obj_cell ob 2
    have k3 := obj_cell ob 3
    have k4 := obj_cell ob 4
    replace g := g.drew
    refine wp_region_noPanic ?_
    refine wp_region_seq (S := fun w' => w'.cell? ⟨tb, 0, none⟩ = some (.string nm) ∧ w'.cell? ⟨tb, 1, none⟩ = some (.int .i64 cap) ∧ w'.cell? ⟨tb, 2, none⟩ = some (.int .i64 filt) ∧ w'.cell? ⟨tb, 3, none⟩ = some (.int .i64 v) ∧ w'.cell? ⟨tb, 4, none⟩ = some (.slice oo no po) ∧ IsSecs w' (.slice oo no po) lo) [(0, 0), (2, 0), (1, 2), (3, 2), (4, 0), (5, 0)] [0, 1, 0, 6, 10, 31] [0, 1, 0, 4, 10, 16] (by kernel_rfl) (by kernel_rfl) (fun _ _ _ _ _ h => h) ?_ (fun hH => ?_)
    · exact ⟨k0, k1, k2, k3, k4, hs.keepB (B.refl _).drew⟩
    refine wpSeq_take (d := 63) (v := ?_) rfl rfl (by kernel_rfl) (fun w hS => ?_) ?_
    rotate_left
    · go_simp <;> with_reducible rfl
    dsimp only [List.set_cons_zero, List.set_cons_succ]
    refine wpSeq_take (d := 65) (v := ?_) rfl rfl (by kernel_rfl) (fun w hS => ?_) ?_
    rotate_left
    · go_simp <;> with_reducible rfl
    dsimp only [List.set_cons_zero, List.set_cons_succ]
    refine wpSeq_call rfl (by kernel_rfl) (fun K hK => ?_)
    go_simp
    (with_reducible refine (cR _ hH.2.2.2.2.2).mono ?_)
    rintro e w' ⟨rfl, hq⟩
    replace g := g.trans hq
    refine hK.out _ _ ?_ (fun hH => ?_)
    · exact ⟨hq.keep hH.1, hq.keep hH.2.1, hq.keep hH.2.2.1, hq.keep hH.2.2.2.1, hq.keep hH.2.2.2.2.1, hH.2.2.2.2.2.keepB hq⟩
    clear hK
    refine wpSeq_call rfl (by kernel_rfl) (fun K hK => ?_)
    go_simp
    (with_reducible refine (cE _ hH.2.2.2.2.2).mono ?_)
    rintro e w' ⟨rfl, hq⟩
    replace g := g.trans hq
    refine hK.out _ _ ?_ (fun hH => ?_)
    · exact ⟨hq.keep hH.1, hq.keep hH.2.1, hq.keep hH.2.2.1, hq.keep hH.2.2.2.1, hq.keep hH.2.2.2.2.1, hH.2.2.2.2.2.keepB hq⟩
    clear hK
    refine wpSeq_take (d := 67) (v := ?_) rfl rfl (by kernel_rfl) (fun w hS => ?_) ?_
    rotate_left
    · go_simp <;> with_reducible rfl
    dsimp only [List.set_cons_zero, List.set_cons_succ]
    refine wpSeq_take (d := 8) (v := ?_) rfl rfl (by kernel_rfl) (fun w hS => ?_) ?_
    rotate_left
    · go_simp <;> with_reducible rfl
    dsimp only [List.set_cons_zero, List.set_cons_succ]
    refine wpSeq_done ?_
    refine NoPanic.normal ?_
    go_wp2
    go_ret
    exact ⟨by simp, g⟩
  · subst em
    obtain ⟨u0, eu0⟩ : ∃ u, bits .and .i64 v 3 = u := ⟨_, rfl⟩
    obtain ⟨u, eu⟩ : ∃ u, IntKind.i64.wrap (19999999 + u0) = u := ⟨_, rfl⟩
    go_wp2_with fail
    have ob : (w3.alloc (.cells #[.string nm, .int .i64 u, .int .i64 filt, .int .i64 err, .slice oo no po] 24)).heap[w3.heap.size]? = some (.cells #[.string nm, .int .i64 u, .int .i64 filt, .int .i64 err, .slice oo no po] 24 (0, 0)) := obj_new _ _
    have qa : B w3 (w3.alloc (.cells #[.string nm, .int .i64 u, .int .i64 filt, .int .i64 err, .slice oo no po] 24)) := (B.refl _).alloc _ _
    replace g := g.trans qa
    replace hs := hs.keepB qa
    clear f0 f1 f2 f3 f4 qa hn
    generalize w3.alloc (.cells #[.string nm, .int .i64 u, .int .i64 filt, .int .i64 err, .slice oo no po] 24) = W at *
    generalize w3.heap.size = tb at *
    have cR := fun w h => tipright_any nm u filt err (.slice oo no po) lo w h
    have cE := fun w h => r8tipright_any nm u filt err (.slice oo no po) lo w h
    generalize tipB nm u filt err lo = bb at *
    have k0 := obj_cell ob 0
    have k1 := obj_cell ob 1
    have k2 := obj_cell ob 2
    have k3 := obj_cell ob 3
    have k4 := obj_cell ob 4
    replace g := g.drew
    refine wp_region_noPanic ?_
    refine wp_region_seq (S := fun w' => w'.cell? ⟨tb, 0, none⟩ = some (.string nm) ∧ w'.cell? ⟨tb, 1, none⟩ = some (.int .i64 u) ∧ w'.cell? ⟨tb, 2, none⟩ = some (.int .i64 filt) ∧ w'.cell? ⟨tb, 3, none⟩ = some (.int .i64 err) ∧ w'.cell? ⟨tb, 4, none⟩ = some (.slice oo no po) ∧ IsSecs w' (.slice oo no po) lo) [(0, 0), (2, 0), (1, 2), (3, 2), (4, 0), (5, 0)] [0, 1, 0, 6, 10, 31] [0, 1, 0, 4, 10, 16] (by kernel_rfl) (by kernel_rfl) (fun _ _ _ _ _ h => h) ?_ (fun hH => ?_)
    · exact ⟨k0, k1, k2, k3, k4, hs.keepB (B.refl _).drew⟩
    refine wpSeq_take (d := 63) (v := ?_) rfl rfl (by kernel_rfl) (fun w hS => ?_) ?_
    rotate_left
    · go_simp <;> with_reducible rfl
    dsimp only [List.set_cons_zero, List.set_cons_succ]
    refine wpSeq_take (d := 65) (v := ?_) rfl rfl (by kernel_rfl) (fun w hS => ?_) ?_
    rotate_left
    · go_simp <;> with_reducible rfl
    dsimp only [List.set_cons_zero, List.set_cons_succ]
    refine wpSeq_call rfl (by kernel_rfl) (fun K hK => ?_)
    go_simp
    (with_reducible refine (cR _ hH.2.2.2.2.2).mono ?_)
    rintro e w' ⟨rfl, hq⟩
    replace g := g.trans hq
    refine hK.out _ _ ?_ (fun hH => ?_)
    · exact ⟨hq.keep hH.1, hq.keep hH.2.1, hq.keep hH.2.2.1, hq.keep hH.2.2.2.1, hq.keep hH.2.2.2.2.1, hH.2.2.2.2.2.keepB hq⟩
    clear hK
    refine wpSeq_call rfl (by kernel_rfl) (fun K hK => ?_)
    go_simp
    (with_reducible refine (cE _ hH.2.2.2.2.2).mono ?_)
    rintro e w' ⟨rfl, hq⟩
    replace g := g.trans hq
    refine hK.out _ _ ?_ (fun hH => ?_)
    · exact ⟨hq.keep hH.1, hq.keep hH.2.1, hq.keep hH.2.2.1, hq.keep hH.2.2.2.1, hq.keep hH.2.2.2.2.1, hH.2.2.2.2.2.keepB hq⟩
    clear hK
    refine wpSeq_take (d := 67) (v := ?_) rfl rfl (by kernel_rfl) (fun w hS => ?_) ?_
    rotate_left
    · go_simp <;> with_reducible rfl
    dsimp only [List.set_cons_zero, List.set_cons_succ]
    refine wpSeq_take (d := 8) (v := ?_) rfl rfl (by kernel_rfl) (fun w hS => ?_) ?_
    rotate_left
    · go_simp <;> with_reducible rfl
    dsimp only [List.set_cons_zero, List.set_cons_succ]
    refine wpSeq_done ?_
    refine NoPanic.normal ?_
    go_wp2
    go_ret
    exact ⟨by simp, g⟩
  · subst em
    obtain ⟨u0, eu0⟩ : ∃ u, bits .and .i64 v 3 = u := ⟨_, rfl⟩
    obtain ⟨u, eu⟩ : ∃ u, IntKind.i64.wrap (59999 + u0) = u := ⟨_, rfl⟩
    go_wp2_with fail
    have ob : (w3.alloc (.cells #[.string nm, .int .i64 cap, .int .i64 u, .int .i64 err, .slice oo no po] 24)).heap[w3.heap.size]? = some (.cells #[.string nm, .int .i64 cap, .int .i64 u, .int .i64 err, .slice oo no po] 24 (0, 0)) := obj_new _ _
    have qa : B w3 (w3.alloc (.cells #[.string nm, .int .i64 cap, .int .i64 u, .int .i64 err, .slice oo no po] 24)) := (B.refl _).alloc _ _
    replace g := g.trans qa
    replace hs := hs.keepB qa
    clear f0 f1 f2 f3 f4 qa hn
    generalize w3.alloc (.cells #[.string nm, .int .i64 cap, .int .i64 u, .int .i64 err, .slice oo no po] 24) = W at *
    generalize w3.heap.size = tb at *
    have cR := fun w h => tipright_any nm cap u err (.slice oo no po) lo w h
    have cE := fun w h => r8tipright_any nm cap u err (.slice oo no po) lo w h
    generalize tipB nm cap u err lo = bb at *
    have k0 := obj_cell ob 0
    have k1 := obj_cell ob 1
    have k2 := obj_cell ob 2
    have k3 := obj_cell ob 3
    have k4 := obj_cell ob 4
    replace g := g.drew
    refine wp_region_noPanic ?_
    refine wp_region_seq (S := fun w' => w'.cell? ⟨tb, 0, none⟩ = some (.string nm) ∧ w'.cell? ⟨tb, 1, none⟩ = some (.int .i64 cap) ∧ w'.cell? ⟨tb, 2, none⟩ = some (.int .i64 u) ∧ w'.cell? ⟨tb, 3, none⟩ = some (.int .i64 err) ∧ w'.cell? ⟨tb, 4, none⟩ = some (.slice oo no po) ∧ IsSecs w' (.slice oo no po) lo) [(0, 0), (2, 0), (1, 2), (3, 2), (4, 0), (5, 0)] [0, 1, 0, 6, 10, 31] [0, 1, 0, 4, 10, 16] (by kernel_rfl) (by kernel_rfl) (fun _ _ _ _ _ h => h) ?_ (fun hH => ?_)
    · exact ⟨k0, k1, k2, k3, k4, hs.keepB (B.refl _).drew⟩
    refine wpSeq_take (d := 63) (v := ?_) rfl rfl (by kernel_rfl) (fun w hS => ?_) ?_
    rotate_left
    · go_simp <;> with_reducible rfl
    dsimp only [List.set_cons_zero, List.set_cons_succ]
    refine wpSeq_take (d := 65) (v := ?_) rfl rfl (by kernel_rfl) (fun w hS => ?_) ?_
    rotate_left
    · go_simp <;> with_reducible rfl
    dsimp only [List.set_cons_zero, List.set_cons_succ]
    refine wpSeq_call rfl (by kernel_rfl) (fun K hK => ?_)
    go_simp
    (with_reducible refine (cR _ hH.2.2.2.2.2).mono ?_)
    rintro e w' ⟨rfl, hq⟩
    replace g := g.trans hq
    refine hK.out _ _ ?_ (fun hH => ?_)
    · exact ⟨hq.keep hH.1, hq.keep hH.2.1, hq.keep hH.2.2.1, hq.keep hH.2.2.2.1, hq.keep hH.2.2.2.2.1, hH.2.2.2.2.2.keepB hq⟩
    clear hK
    refine wpSeq_call rfl (by kernel_rfl) (fun K hK => ?_)
    go_simp
    (with_reducible refine (cE _ hH.2.2.2.2.2).mono ?_)
    rintro e w' ⟨rfl, hq⟩
    replace g := g.trans hq
    refine hK.out _ _ ?_ (fun hH => ?_)
    · exact ⟨hq.keep hH.1, hq.keep hH.2.1, hq.keep hH.2.2.1, hq.keep hH.2.2.2.1, hq.keep hH.2.2.2.2.1, hH.2.2.2.2.2.keepB hq⟩
    clear hK
    refine wpSeq_take (d := 67) (v := ?_) rfl rfl (by kernel_rfl) (fun w hS => ?_) ?_
    rotate_left
    · go_simp <;> with_reducible rfl
    dsimp only [List.set_cons_zero, List.set_cons_succ]
    refine wpSeq_take (d := 8) (v := ?_) rfl rfl (by kernel_rfl) (fun w hS => ?_) ?_
    rotate_left
    · go_simp <;> with_reducible rfl
    dsimp only [List.set_cons_zero, List.set_cons_succ]
    refine wpSeq_done ?_
    refine NoPanic.normal ?_
    go_wp2
    go_ret
    exact ⟨by simp, g⟩
  · subst em
    obtain ⟨u0, eu0⟩ : ∃ u, bits .and .i64 v 3 = u := ⟨_, rfl⟩
    obtain ⟨u, eu⟩ : ∃ u, IntKind.i64.wrap (9999 + u0) = u := ⟨_, rfl⟩
    go_wp2_with fail
    have ob : (w3.alloc (.cells #[.string nm, .int .i64 cap, .int .i64 filt, .int .i64 u, .slice oo no po] 24)).heap[w3.heap.size]? = some (.cells #[.string nm, .int .i64 cap, .int .i64 filt, .int .i64 u, .slice oo no po] 24 (0, 0)) := obj_new _ _
    have qa : B w3 (w3.alloc (.cells #[.string nm, .int .i64 cap, .int .i64 filt, .int .i64 u, .slice oo no po] 24)) := (B.refl _).alloc _ _
    replace g := g.trans qa
    replace hs := hs.keepB qa
    clear f0 f1 f2 f3 f4 qa hn
    generalize w3.alloc (.cells #[.string nm, .int .i64 cap, .int .i64 filt, .int .i64 u, .slice oo no po] 24) = W at *
    generalize w3.heap.size = tb at *
    have cR := fun w h => tipright_any nm cap filt u (.slice oo no po) lo w h
    have cE := fun w h => r8tipright_any nm cap filt u (.slice oo no po) lo w h
    generalize tipB nm cap filt u lo = bb at *
    have k0 := obj_cell ob 0
    have k1 := obj_cell ob 1
    have k2 := obj_cell ob 2
    have k3 := obj_cell ob 3
    have k4 := obj_cell ob 4
    replace g := g.drew
    refine wp_region_noPanic ?_
    refine wp_region_seq (S := fun w' => w'.cell? ⟨tb, 0, none⟩ = some (.string nm) ∧ w'.cell? ⟨tb, 1, none⟩ = some (.int .i64 cap) ∧ w'.cell? ⟨tb, 2, none⟩ = some (.int .i64 filt) ∧ w'.cell? ⟨tb, 3, none⟩ = some (.int .i64 u) ∧ w'.cell? ⟨tb, 4, none⟩ = some (.slice oo no po) ∧ IsSecs w' (.slice oo no po) lo) [(0, 0), (2, 0), (1, 2), (3, 2), (4, 0), (5, 0)] [0, 1, 0, 6, 10, 31] [0, 1, 0, 4, 10, 16] (by kernel_rfl) (by kernel_rfl) (fun _ _ _ _ _ h => h) ?_ (fun hH => ?_)
    · exact ⟨k0, k1, k2, k3, k4, hs.keepB (B.refl _).drew⟩
    refine wpSeq_take (d := 63) (v := ?_) rfl rfl (by kernel_rfl) (fun w hS => ?_) ?_
    rotate_left
    · go_simp <;> with_reducible rfl
    dsimp only [List.set_cons_zero, List.set_cons_succ]
    refine wpSeq_take (d := 65) (v := ?_) rfl rfl (by kernel_rfl) (fun w hS => ?_) ?_
    rotate_left
    · go_simp <;> with_reducible rfl
    dsimp only [List.set_cons_zero, List.set_cons_succ]
    refine wpSeq_call rfl (by kernel_rfl) (fun K hK => ?_)
    go_simp
    (with_reducible refine (cR _ hH.2.2.2.2.2).mono ?_)
    rintro e w' ⟨rfl, hq⟩
    replace g := g.trans hq
    refine hK.out _ _ ?_ (fun hH => ?_)
    · exact ⟨hq.keep hH.1, hq.keep hH.2.1, hq.keep hH.2.2.1, hq.keep hH.2.2.2.1, hq.keep hH.2.2.2.2.1, hH.2.2.2.2.2.keepB hq⟩
    clear hK
    refine wpSeq_call rfl (by kernel_rfl) (fun K hK => ?_)
    go_simp
    (with_reducible refine (cE _ hH.2.2.2.2.2).mono ?_)
    rintro e w' ⟨rfl, hq⟩
    replace g := g.trans hq
    refine hK.out _ _ ?_ (fun hH => ?_)
    · exact ⟨hq.keep hH.1, hq.keep hH.2.1, hq.keep hH.2.2.1, hq.keep hH.2.2.2.1, hq.keep hH.2.2.2.2.1, hH.2.2.2.2.2.keepB hq⟩
    clear hK
    refine wpSeq_take (d := 67) (v := ?_) rfl rfl (by kernel_rfl) (fun w hS => ?_) ?_
    rotate_left
    · go_simp <;> with_reducible rfl
    dsimp only [List.set_cons_zero, List.set_cons_succ]
    refine wpSeq_take (d := 8) (v := ?_) rfl rfl (by kernel_rfl) (fun w hS => ?_) ?_
    rotate_left
    · go_simp <;> with_reducible rfl
    dsimp only [List.set_cons_zero, List.set_cons_succ]
    refine wpSeq_done ?_
    refine NoPanic.normal ?_
    go_wp2
    go_ret
    exact ⟨by simp, g⟩
  · subst em
    go_wp2_with fail
    have ob0 : (w3.alloc (.cells #[.string nm, .int .i64 cap, .int .i64 filt, .int .i64 err, .slice oo no po] 24)).heap[w3.heap.size]? = some (.cells #[.string nm, .int .i64 cap, .int .i64 filt, .int .i64 err, .slice oo no po] 24 (0, 0)) := obj_new _ _
    have qa : B w3 (w3.alloc (.cells #[.string nm, .int .i64 cap, .int .i64 filt, .int .i64 err, .slice oo no po] 24)) := (B.refl _).alloc _ _
    replace g := g.trans qa
    have ltb : w3.heap.size < (w3.alloc (.cells #[.string nm, .int .i64 cap, .int .i64 filt, .int .i64 err, .slice oo no po] 24)).heap.size := (Array.getElem?_eq_some_iff.1 ob0).1
    have lw : w.heap.size ≤ w3.heap.size := g0
    clear f0 f1 f2 f3 f4 qa hn hs
    generalize w3.alloc (.cells #[.string nm, .int .i64 cap, .int .i64 filt, .int .i64 err, .slice oo no po] 24) = W0 at *
    generalize w3.heap.size = tb at *
    refine (cK _).mono ?_
    rintro e w4 ⟨v7, rfl, hv7, q7⟩
    replace ob0 := q7.b.obj ob0
    replace g := g.trans q7.b
    have h7 : ∃ a n p, v7 = .slice (some a) n p ∧ n ≤ p ∧ p ≤ maxLen := by
      rcases hv7 with ⟨_, h0⟩ | ⟨a, cap, h1, h2, h3, _⟩
      · rw [h0] at hlk; simp at hlk
      · exact ⟨a, _, cap, h1, h2, h3⟩
    obtain ⟨a7, n7, p7, rfl, hp7, hm7⟩ := h7
    have kx4 := obj_cell ob0 4
    have fx4 := obj_free ob0 4
    have h70 : (0 : Int) ≤ (p7 : Int) := by omega
    clear q7
    go_wp2_with fail
    have ob := obj_set ob0 4 (.slice (some a7) 0 p7)
    simp only [List.setIfInBounds_toArray, List.set_cons_succ, List.set_cons_zero] at ob
    replace g := B.setCell (p := ⟨tb, 4, none⟩) g lw (.slice (some a7) 0 p7)
    clear ob0 kx4 fx4
    generalize w4.setCell ⟨tb, 4, none⟩ (.slice (some a7) 0 p7) = W at *
    have hs : IsSecs W (.slice (some a7) 0 p7) [] := .inr ⟨a7, p7, rfl, by simp, hm7, fun i s h => by simp at h⟩
    have cR := fun w h => tipright_any nm cap filt err (.slice (some a7) 0 p7) [] w h
    have cE := fun w h => r8tipright_any nm cap filt err (.slice (some a7) 0 p7) [] w h
    generalize tipB nm cap filt err [] = bb at *
    have k0 := obj_cell ob 0
    have k1 := obj_cell ob 1
    have k2 := obj_cell ob 2
    have k3 := obj_cell ob 3
    have k4 := obj_cell ob 4
    replace g := g.drew
    refine wp_region_noPanic ?_
    refine wp_region_seq (S := fun w' => w'.cell? ⟨tb, 0, none⟩ = some (.string nm) ∧ w'.cell? ⟨tb, 1, none⟩ = some (.int .i64 cap) ∧ w'.cell? ⟨tb, 2, none⟩ = some (.int .i64 filt) ∧ w'.cell? ⟨tb, 3, none⟩ = some (.int .i64 err) ∧ w'.cell? ⟨tb, 4, none⟩ = some (.slice (some a7) 0 p7) ∧ IsSecs w' (.slice (some a7) 0 p7) []) [(0, 0), (2, 0), (1, 2), (3, 2), (4, 0), (5, 0)] [0, 1, 0, 6, 10, 31] [0, 1, 0, 4, 10, 16] (by kernel_rfl) (by kernel_rfl) (fun _ _ _ _ _ h => h) ?_ (fun hH => ?_)
    · exact ⟨k0, k1, k2, k3, k4, hs.keepB (B.refl _).drew⟩
    refine wpSeq_take (d := 63) (v := ?_) rfl rfl (by kernel_rfl) (fun w hS => ?_) ?_
    rotate_left
    · go_simp <;> with_reducible rfl
    dsimp only [List.set_cons_zero, List.set_cons_succ]
    refine wpSeq_take (d := 65) (v := ?_) rfl rfl (by kernel_rfl) (fun w hS => ?_) ?_
    rotate_left
    · go_simp <;> with_reducible rfl
    dsimp only [List.set_cons_zero, List.set_cons_succ]
    refine wpSeq_call rfl (by kernel_rfl) (fun K hK => ?_)
    go_simp
    (with_reducible refine (cR _ hH.2.2.2.2.2).mono ?_)
    rintro e w' ⟨rfl, hq⟩
    replace g := g.trans hq
    refine hK.out _ _ ?_ (fun hH => ?_)
    · exact ⟨hq.keep hH.1, hq.keep hH.2.1, hq.keep hH.2.2.1, hq.keep hH.2.2.2.1, hq.keep hH.2.2.2.2.1, hH.2.2.2.2.2.keepB hq⟩
    clear hK
    refine wpSeq_call rfl (by kernel_rfl) (fun K hK => ?_)
    go_simp
    (with_reducible refine (cE _ hH.2.2.2.2.2).mono ?_)
    rintro e w' ⟨rfl, hq⟩
    replace g := g.trans hq
    refine hK.out _ _ ?_ (fun hH => ?_)
    · exact ⟨hq.keep hH.1, hq.keep hH.2.1, hq.keep hH.2.2.1, hq.keep hH.2.2.2.1, hq.keep hH.2.2.2.2.1, hH.2.2.2.2.2.keepB hq⟩
    clear hK
    refine wpSeq_take (d := 67) (v := ?_) rfl rfl (by kernel_rfl) (fun w hS => ?_) ?_
    rotate_left
    · go_simp <;> with_reducible rfl
    dsimp only [List.set_cons_zero, List.set_cons_succ]
    refine wpSeq_take (d := 8) (v := ?_) rfl rfl (by kernel_rfl) (fun w hS => ?_) ?_
    rotate_left
    · go_simp <;> with_reducible rfl
    dsimp only [List.set_cons_zero, List.set_cons_succ]
    refine wpSeq_done ?_
    refine NoPanic.normal ?_
    go_wp2
    go_ret
    exact ⟨by simp, g⟩
end Go.Proofs.Ytkiepmfknbbeaaa
