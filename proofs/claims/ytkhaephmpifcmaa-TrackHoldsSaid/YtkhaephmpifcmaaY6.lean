/-
  The document's states: giving; Layer 17: what the statements know of states; What a literal's fit says. No program is named here; Layer 17: the walk of TrackSums; Layer 17: the walk of TrackEmpty; A script of drawing and giving, in memory; Layer 17: the walk of TrackPlays; Plain mathematics of TrackHolds: whatever the pump really draws, what is in wells and in the tip is within. No program is named here; A number's lowest bits. No program is named here; Layer 17: the walk of TrackHolds; Layer 17: the laws over the code's own states; Arguments opened: a script of drawing and giving.
-/
import Derived.Lib.MinMax
import Derived.Deep.DeepCutAuto
import Derived.Deep.CutBlock
import Derived.Deep.QuietTactic
import Derived.BigQuiet
import Derived.WalkKit
import Derived.Laws.Bits64
import Derived.Laws.StructEq
import Derived.KernelRfl
import Derived.Laws.Strings2
import Derived.Laws.Slices
import Derived.Test.YtkhaephmpifcmaaChecked
import Derived.ProofKit
import Derived.OpenShut
import Derived.Deep.Slices
import Derived.ChangeArms
import Derived.Test.YtkhaephmpifcmaaY1
import Derived.Test.YtkhaephmpifcmaaY2
import Derived.Test.YtkhaephmpifcmaaY3
import Derived.Test.YtkhaephmpifcmaaY4
import Derived.Test.YtkhaephmpifcmaaY5
namespace Go.Proofs.Ytkhaephmpifcmaa
open Go.RowKit
set_option linter.unusedVariables false
set_option maxRecDepth 100000 in
set_option maxHeartbeats 4000000 in
theorem r11give_any (w : World) (lo hi : Nat) (v : Value) (W : List Sp2) (T : Sp2) (i M : Int) (h : StT 43 w lo hi v W T) (hw : WB W T M) (hM : M ≤ 4000000000000000000) (hI : I64 i) (hn : W.length ≤ 1000000) :
    Calls Try.prog 14 #[v, .int .i64 i] w fun r w' => r = .returned (.bool (hasS W i)) ∧ StT 43 w' lo hi v (giveW W T i) (giveT W T i) ∧ G (Rng lo hi) w w' := by
  obtain ⟨b, o, c, rfl, hA⟩ := h
  obtain ⟨N, hN⟩ : ∃ N, W.length = N := ⟨_, rfl⟩
  have k0 := obj_cell hA.obj 0
  rw [hN] at k0 hn
  by_cases h0 : i < 0
  · have hiB : decide (i < 0) = true := decide_eq_true h0
    have hs : hasS W i = false := by unfold hasS; rw [decide_eq_false (by omega)]; rfl
    have HA := Lib.hid hA
    clear hA
    go_enter Try.func14, Try.ntmps14
    go_wp2
    go_ret
    exact ⟨by first | (rw [hs]; rfl) | rfl, by rw [giveW_no hs, giveT_no hs]; exact ⟨_, _, _, rfl, HA.out⟩, G.refl _ _⟩
  have hiB : decide (i < 0) = false := decide_eq_false h0
  by_cases h1 : (N : Int) ≤ i
  · have hlB : decide ((N : Int) ≤ i) = true := decide_eq_true h1
    have hs : hasS W i = false := by unfold hasS; rw [decide_eq_false (show ¬ i < (W.length : Int) by omega), Bool.and_false]
    have HA := Lib.hid hA
    clear hA
    go_enter Try.func14, Try.ntmps14
    go_wp2
    go_ret
    exact ⟨by first | (rw [hs]; rfl) | rfl, by rw [giveW_no hs, giveT_no hs]; exact ⟨_, _, _, rfl, HA.out⟩, G.refl _ _⟩
  have hs : hasS W i = true := by unfold hasS; simp only [Bool.and_eq_true, decide_eq_true_eq]; omega
  clear hiB
  obtain ⟨i0, hlt, hg⟩ := hasS_ix hs
  obtain ⟨g, rfl, g1, g2, g3, f0, f1, z0, z1⟩ := hA.at_ hg
  obtain ⟨a1, a2, a3, a4, a5⟩ := hw.at_ hs
  have k1 := obj_cell hA.obj 1
  have k2 := obj_cell hA.obj 2
  have y1 := obj_free hA.obj 1
  have y2 := obj_free hA.obj 2
  have hW : giveW W T i = W.set i.toNat ((getS W i).1 + T.1, (getS W i).2 + T.2) := by unfold giveW; rw [if_pos hs]
  have hT : giveT W T i = (0, 0) := by unfold giveT; rw [if_pos hs]
  obtain ⟨k, hk⟩ : ∃ k : Nat, i = (k : Int) := ⟨i.toNat, by omega⟩
  subst hk
  rw [show ((k : Int)).toNat = k by omega] at f0 f1 z0 z1 hlt hW
  obtain ⟨t0, t1⟩ := T
  generalize getS W (k : Int) = X at *
  obtain ⟨x0, x1⟩ := X
  simp only at k1 k2 f0 f1 a1 a2 a3 a4 a5 hW
  obtain ⟨u0, hu0⟩ : ∃ z, x0 + t0 = z := ⟨_, rfl⟩
  have w3 : IntKind.i64.wrap (x0 + t0) = u0 := by rw [hu0]; exact wrapI (by omega) (by omega)
  obtain ⟨u1, hu1⟩ : ∃ z, x1 + t1 = z := ⟨_, rfl⟩
  have w4 : IntKind.i64.wrap (x1 + t1) = u1 := by rw [hu1]; exact wrapI (by omega) (by omega)
  rw [hu0, hu1] at hW
  have hnI : (k : Int) < (N : Int) := by omega
  have hk0 : (0 : Int) ≤ (k : Int) := by omega
  have hlB : decide ((N : Int) ≤ (k : Int)) = false := decide_eq_false (by omega)
  have hiB : decide ((k : Int) < 0) = false := decide_eq_false (by omega)
  have hgb : ¬ g = b := g3
  have hbg : ¬ b = g := fun e => g3 e.symm
  have HA := Lib.hid (And.intro hA (And.intro hlt (And.intro hW (And.intro hT (And.intro hs (And.intro g1 g2))))))
  clear hA hlt hW hT hg hw hI i0 hs a1 a2 a3 a4 a5 hu0 hu1 g1 g2 g3 h0 h1
  go_enter Try.func14, Try.ntmps14
  go_wp2_with fail
  refine wp_region_noPanic ?_
  refine wp_region_gate (S := fun w' => w'.cell? ⟨b, 0, none⟩ = some (.slice (some ⟨g, 0, none⟩) N c) ∧ w'.cell? ⟨b, 1, none⟩ = some (.int .i64 t0) ∧ w'.cell? ⟨b, 2, none⟩ = some (.int .i64 t1) ∧ w'.cell? ⟨g, k * 2, none⟩ = some (.int .i64 x0) ∧ w'.cell? ⟨g, k * 2 + 1, none⟩ = some (.int .i64 x1) ∧ w'.frozen? ⟨g, k * 2, none⟩ = false ∧ w'.frozen? ⟨g, k * 2 + 1, none⟩ = false ∧ w'.frozen? ⟨b, 1, none⟩ = false ∧ w'.frozen? ⟨b, 2, none⟩ = false) 35 [(0, 3), (1, 3), (2, 3), (3, 0), (4, 3), (5, 3), (6, 3), (7, 3), (8, 0), (9, 3), (10, 3), (11, 3), (12, 0), (13, 3), (14, 3), (15, 3), (16, 3), (17, 0), (18, 3), (19, 3), (20, 3), (21, 3), (22, 0), (23, 3), (24, 3), (25, 3), (26, 0), (27, 3), (28, 3), (29, 3), (30, 3), (31, 0), (32, 3), (33, 3), (34, 3), (35, 4)] [0, 1, 2, 4, 0, 0, 32, 64, 128, 0, 768, 1024, 2048, 0, 8192, 16384, 32768, 65536, 135168, 0, 524288, 1048576, 2097152, 0, 12582912, 16777216, 33554432, 0, 134217728, 268435456, 536870912, 1073741824, 2214592512, 4295229440, 17179869183, 34359738367] [0, 1, 2, 4, 0, 0, 32, 64, 128, 0, 768, 1024, 2048, 0, 8192, 16384, 32768, 65536, 135168, 0, 524288, 1048576, 2097152, 0, 12582912, 16777216, 33554432, 0, 134217728, 268435456, 536870912, 1073741824, 2214592512, 4295229440, 24, 25769803776] [0, 0, 0, 51539607560, 0, 0, 0, 0, 60129811712, 0, 0, 0, 60129808384, 0, 0, 0, 0, 60129935360, 0, 0, 0, 0, 64546144256, 0, 0, 0, 64491618304, 0, 0, 0, 0, 66571993088, 0, 0, 0, 0] (by kernel_rfl) (by kernel_rfl) (fun _ _ _ _ _ h => h) ?_ (fun hH => ?_)
  · exact ⟨k0, k1, k2, f0, f1, z0, z1, y1, y2⟩
  refine wpSeqG_free (d := 16) (v := ?_) rfl rfl (by kernel_rfl) (fun w => ?_) ?_
  rotate_left
  · go_simp <;> with_reducible rfl
  dsimp only [List.set_cons_zero, List.set_cons_succ]
  refine wpSeqG_free (d := 17) (v := ?_) rfl rfl (by kernel_rfl) (fun w => ?_) ?_
  rotate_left
  · go_simp <;> with_reducible rfl
  dsimp only [List.set_cons_zero, List.set_cons_succ]
  refine wpSeqG_free (d := 18) (v := ?_) rfl rfl (by kernel_rfl) (fun w => ?_) ?_
  rotate_left
  · go_simp <;> with_reducible rfl
  dsimp only [List.set_cons_zero, List.set_cons_succ]
  refine wpSeqG_take (d := 19) (v := ?_) rfl rfl (by kernel_rfl) (fun w hS => ?_) ?_
  rotate_left
  · go_simp <;> with_reducible rfl
  dsimp only [List.set_cons_zero, List.set_cons_succ]
  refine wpSeqG_free (d := 20) (v := ?_) rfl rfl (by kernel_rfl) (fun w => ?_) ?_
  rotate_left
  · go_simp <;> with_reducible rfl
  dsimp only [List.set_cons_zero, List.set_cons_succ]
  refine wpSeqG_free (d := 21) (v := ?_) rfl rfl (by kernel_rfl) (fun w => ?_) ?_
  rotate_left
  · go_simp <;> with_reducible rfl
  dsimp only [List.set_cons_zero, List.set_cons_succ]
  refine wpSeqG_free (d := 22) (v := ?_) rfl rfl (by kernel_rfl) (fun w => ?_) ?_
  rotate_left
  · go_simp <;> with_reducible rfl
  dsimp only [List.set_cons_zero, List.set_cons_succ]
  refine wpSeqG_free (d := 23) (v := ?_) rfl rfl (by kernel_rfl) (fun w => ?_) ?_
  rotate_left
  · go_simp <;> with_reducible rfl
  dsimp only [List.set_cons_zero, List.set_cons_succ]
  refine wpSeqG_take (d := 24) (v := ?_) rfl rfl (by kernel_rfl) (fun w hS => ?_) ?_
  rotate_left
  · go_simp <;> with_reducible rfl
  dsimp only [List.set_cons_zero, List.set_cons_succ]
  refine wpSeqG_free (d := 25) (v := ?_) rfl rfl (by kernel_rfl) (fun w => ?_) ?_
  rotate_left
  · go_simp <;> with_reducible rfl
  dsimp only [List.set_cons_zero, List.set_cons_succ]
  refine wpSeqG_free (d := 26) (v := ?_) rfl rfl (by kernel_rfl) (fun w => ?_) ?_
  rotate_left
  · go_simp <;> with_reducible rfl
  dsimp only [List.set_cons_zero, List.set_cons_succ]
  refine wpSeqG_free (d := 27) (v := ?_) rfl rfl (by kernel_rfl) (fun w => ?_) ?_
  rotate_left
  · go_simp <;> with_reducible rfl
  dsimp only [List.set_cons_zero, List.set_cons_succ]
  refine wpSeqG_take (d := 28) (v := ?_) rfl rfl (by kernel_rfl) (fun w hS => ?_) ?_
  rotate_left
  · go_simp <;> with_reducible rfl
  dsimp only [List.set_cons_zero, List.set_cons_succ]
  refine wpSeqG_free (d := 29) (v := ?_) rfl rfl (by kernel_rfl) (fun w => ?_) ?_
  rotate_left
  · go_simp <;> with_reducible rfl
  dsimp only [List.set_cons_zero, List.set_cons_succ]
  refine wpSeqG_free (d := 30) (v := ?_) rfl rfl (by kernel_rfl) (fun w => ?_) ?_
  rotate_left
  · go_simp <;> with_reducible rfl
  dsimp only [List.set_cons_zero, List.set_cons_succ]
  refine wpSeqG_free (d := 31) (v := ?_) rfl rfl (by kernel_rfl) (fun w => ?_) ?_
  rotate_left
  · go_simp <;> with_reducible rfl
  dsimp only [List.set_cons_zero, List.set_cons_succ]
  refine wpSeqG_free (d := 32) (v := ?_) rfl rfl (by kernel_rfl) (fun w => ?_) ?_
  rotate_left
  · go_simp <;> with_reducible rfl
  dsimp only [List.set_cons_zero, List.set_cons_succ]
  refine wpSeqG_take (d := 33) (v := ?_) rfl rfl (by kernel_rfl) (fun w hS => ?_) ?_
  rotate_left
  · go_simp <;> with_reducible rfl
  dsimp only [List.set_cons_zero, List.set_cons_succ]
  refine wpSeqG_free (d := 34) (v := ?_) rfl rfl (by kernel_rfl) (fun w => ?_) ?_
  rotate_left
  · go_simp <;> with_reducible rfl
  dsimp only [List.set_cons_zero, List.set_cons_succ]
  refine wpSeqG_free (d := 35) (v := ?_) rfl rfl (by kernel_rfl) (fun w => ?_) ?_
  rotate_left
  · go_simp <;> with_reducible rfl
  dsimp only [List.set_cons_zero, List.set_cons_succ]
  refine wpSeqG_free (d := 36) (v := ?_) rfl rfl (by kernel_rfl) (fun w => ?_) ?_
  rotate_left
  · go_simp <;> with_reducible rfl
  dsimp only [List.set_cons_zero, List.set_cons_succ]
  refine wpSeqG_free (d := 37) (v := ?_) rfl rfl (by kernel_rfl) (fun w => ?_) ?_
  rotate_left
  · go_simp <;> with_reducible rfl
  dsimp only [List.set_cons_zero, List.set_cons_succ]
  refine wpSeqG_take (d := 38) (v := ?_) rfl rfl (by kernel_rfl) (fun w hS => ?_) ?_
  rotate_left
  · go_simp <;> with_reducible rfl
  dsimp only [List.set_cons_zero, List.set_cons_succ]
  refine wpSeqG_free (d := 39) (v := ?_) rfl rfl (by kernel_rfl) (fun w => ?_) ?_
  rotate_left
  · go_simp <;> with_reducible rfl
  dsimp only [List.set_cons_zero, List.set_cons_succ]
  refine wpSeqG_free (d := 40) (v := ?_) rfl rfl (by kernel_rfl) (fun w => ?_) ?_
  rotate_left
  · go_simp <;> with_reducible rfl
  dsimp only [List.set_cons_zero, List.set_cons_succ]
  refine wpSeqG_free (d := 41) (v := ?_) rfl rfl (by kernel_rfl) (fun w => ?_) ?_
  rotate_left
  · go_simp <;> with_reducible rfl
  dsimp only [List.set_cons_zero, List.set_cons_succ]
  refine wpSeqG_take (d := 42) (v := ?_) rfl rfl (by kernel_rfl) (fun w hS => ?_) ?_
  rotate_left
  · go_simp <;> with_reducible rfl
  dsimp only [List.set_cons_zero, List.set_cons_succ]
  refine wpSeqG_free (d := 43) (v := ?_) rfl rfl (by kernel_rfl) (fun w => ?_) ?_
  rotate_left
  · go_simp <;> with_reducible rfl
  dsimp only [List.set_cons_zero, List.set_cons_succ]
  refine wpSeqG_free (d := 44) (v := ?_) rfl rfl (by kernel_rfl) (fun w => ?_) ?_
  rotate_left
  · go_simp <;> with_reducible rfl
  dsimp only [List.set_cons_zero, List.set_cons_succ]
  refine wpSeqG_free (d := 45) (v := ?_) rfl rfl (by kernel_rfl) (fun w => ?_) ?_
  rotate_left
  · go_simp <;> with_reducible rfl
  dsimp only [List.set_cons_zero, List.set_cons_succ]
  refine wpSeqG_free (d := 46) (v := ?_) rfl rfl (by kernel_rfl) (fun w => ?_) ?_
  rotate_left
  · go_simp <;> with_reducible rfl
  dsimp only [List.set_cons_zero, List.set_cons_succ]
  refine wpSeqG_take (d := 47) (v := ?_) rfl rfl (by kernel_rfl) (fun w hS => ?_) ?_
  rotate_left
  · go_simp <;> with_reducible rfl
  dsimp only [List.set_cons_zero, List.set_cons_succ]
  refine wpSeqG_free (d := 48) (v := ?_) rfl rfl (by kernel_rfl) (fun w => ?_) ?_
  rotate_left
  · go_simp <;> with_reducible rfl
  dsimp only [List.set_cons_zero, List.set_cons_succ]
  refine wpSeqG_free (d := 49) (v := ?_) rfl rfl (by kernel_rfl) (fun w => ?_) ?_
  rotate_left
  · go_simp <;> with_reducible rfl
  dsimp only [List.set_cons_zero, List.set_cons_succ]
  refine wpSeqG_free (d := 50) (v := ?_) rfl rfl (by kernel_rfl) (fun w => ?_) ?_
  rotate_left
  · go_simp <;> with_reducible rfl
  dsimp only [List.set_cons_zero, List.set_cons_succ]
  refine wpSeqG_gate rfl (by kernel_rfl) (fun K hK => ?_)
  go_simp
  refine hK.out _ _ ?_
  clear hK
  refine wpSeqG_done ?_
  refine NoPanic.normal ?_
  clear k0 k1 k2 f0 f1 z0 z1 y1 y2 hH
  have hA4 := (HA.out.1.setW HA.out.2.1 u0 u1).keepB (B.refl _).drew
  have g4 : G (Rng lo hi) w ((w.setCell ⟨g, k * 2, none⟩ (.int .i64 u0)).setCell ⟨g, k * 2 + 1, none⟩ (.int .i64 u1)).drew := (G.set2 HA.out.2.2.2.2.2 _ _).drew
  go_simp
  generalize ((w.setCell ⟨g, k * 2, none⟩ (.int .i64 u0)).setCell ⟨g, k * 2 + 1, none⟩ (.int .i64 u1)).drew = W4 at *
  have j1 := obj_cell hA4.obj 1
  have j2 := obj_cell hA4.obj 2
  have y1 := obj_free hA4.obj 1
  have y2 := obj_free hA4.obj 2
  have hA5 := hA4.setT 0 0
  have g5 : G (Rng lo hi) w ((W4.setCell ⟨b, 1, none⟩ (.int .i64 0)).setCell ⟨b, 2, none⟩ (.int .i64 0)) := g4.trans (G.set2 ⟨hA4.blo, hA4.bhi⟩ _ _)
  have HF := Lib.hid (And.intro hA5 g5)
  clear hA4 g4 hA5 g5
  go_wp2
  go_ret
  exact ⟨by rw [HA.out.2.2.2.2.1]; rfl, ⟨b, _, c, rfl, by rw [HA.out.2.2.1, HA.out.2.2.2.1]; exact HF.out.1⟩, HF.out.2⟩
end Go.Proofs.Ytkhaephmpifcmaa

namespace Go.Proofs.Ytkhaephmpifcmaa
open Go.RowKit
set_option linter.unusedVariables false
theorem known17_num : (drawOk (startD (seatD 0 1 0 1 [7, 7])) 0 10 1 && hasS (startD (seatD 0 1 0 1 [7, 7])) 1) = true := by kernel_rfl
set_option maxRecDepth 100000 in
set_option maxHeartbeats 4000000 in
theorem known17_any {St : World → Nat → Nat → Value → List Sp2 → Sp2 → Prop} (c : TrkC St) (d : DropC St) (w : World) : Calls Try.prog 7 #[] w fun e w' => e = .returned (.bool true) ∧ B w w' := by
  have q0 : B w (w.alloc (.cells #[.int .u32 7, .int .u32 7] 47)) := (B.refl w).alloc _ _
  have cB := boards17_any 0 1 0 1 _ [7, 7] (by decide) (by decide) (by decide) (by decide) (by decide) _ (u32s_77 w)
  have hR := seat_right (a := 0) (b := 1) (c := 0) (d := 1) (by decide) (by decide) (by decide) (by decide) [7, 7]
  have hF : (seatD 0 1 0 1 [7, 7]).fs.length ≤ 1000 := Nat.le_trans (fillsF_len (wares7 0 1 0 1) [7, 7] 0) (by decide)
  have hN := known17_num
  generalize seatD 0 1 0 1 [7, 7] = D at *
  obtain ⟨hS1, hWB⟩ := startD_wb hR
  simp only [Bool.and_eq_true] at hN
  obtain ⟨hok, h1⟩ := hN
  go_enter Try.func7, Try.ntmps7
  go_wp2_with fail
  refine cB.mono ?_
  rintro e w1 ⟨P, X, rb, wv, tv, fv, rfl, hPd, hM, hD, ⟨l1, l2, hH⟩, q1⟩
  replace q1 := q0.trans q1
  have cN := c.new P w1 X hM (by rw [hPd]; exact hR) (by rw [hPd]; exact hF)
  rw [hPd] at cN
  clear cB q0 hM hPd
  go_wp2_with fail
  refine cN.mono ?_
  rintro e w2 ⟨v, rfl, hs, q2⟩
  obtain ⟨sa, rfl⟩ := c.ptr hs
  have cS := r11start_any D rb l1 l2 wv tv fv w2 (hH.keepB q2) (hD.keepB q2) hR (by omega)
  generalize startD D = S at *
  obtain ⟨i0, hlt, hg⟩ := hasS_ix (drawOk_parts hok).1
  rw [show ((0 : Int)).toNat = 0 by rfl] at hlt hg
  have hp := (drawOk_parts hok).2.2.2
  have hat := hWB.at_ (drawOk_parts hok).1
  have hlo := c.top hs
  have hq12 := q1.trans q2
  obtain ⟨N, hNl⟩ : ∃ N, S.length = N := ⟨_, rfl⟩
  rw [hNl] at cS
  clear cN hH hD
  go_wp2_with fail
  refine cS.mono ?_
  rintro e w3 ⟨g, rfl, hrow, q3⟩
  obtain ⟨f0, f1⟩ := flatP_get S 0 _ hg
  have k0 := (World.ownsRow.cellAt hrow 0 (by omega)).trans f0
  have k1 := (World.ownsRow.cellAt hrow 1 (by omega)).trans f1
  replace hs := c.keepB hs q3
  have HX := Lib.hid (And.intro hS1 (And.intro hok (And.intro h1 (And.intro hNl (And.intro hg hWB)))))
  have hn0 : (0 : Int) < (N : Int) := by omega
  have hn0N : 0 < N := by omega
  have hq3 := hq12.trans q3
  have hsz3 := q3.below.size
  clear cS q2 q3 hrow f0 f1 hq12
  have hW : drawW S 0 10 1 = S.set 0 ((getS S 0).1 - 11, (getS S 0).2 - 9) := by unfold drawW; rw [if_pos HX.out.2.1]; rfl
  have hT : drawT S (0, 0) 0 10 1 = (9, 11) := by unfold drawT; rw [if_pos HX.out.2.1]; rfl
  have hA : atS (drawW S 0 10 1) 0 = ((getS S 0).1 - 11, (getS S 0).2 - 9) := by
    unfold atS
    rw [show hasS (drawW S 0 10 1) 0 = true by unfold hasS; rw [drawW_len]; simp only [Bool.and_eq_true, decide_eq_true_eq]; omega]
    rw [hW]
    unfold getS
    rw [show ((0 : Int)).toNat = 0 by rfl, List.getD_eq_getElem?_getD, List.getElem?_set_self (by omega)]
    rfl
  have hI : hasS (drawW S 0 10 1) 0 = true := by unfold hasS; rw [drawW_len]; simp only [Bool.and_eq_true, decide_eq_true_eq]; omega
  have hG : hasS (drawW S 0 10 1) 1 = true := by have := h1; unfold hasS at *; rw [drawW_len]; exact this
  have hGT : giveT (drawW S 0 10 1) (9, 11) 1 = (0, 0) := by unfold giveT; rw [if_pos hG]
  obtain ⟨x0, x1, hX⟩ : ∃ x0 x1, getS S 0 = (x0, x1) := ⟨_, _, rfl⟩
  rw [hX] at hp hat hA k0 k1
  simp only at hp hat hA k0 k1
  obtain ⟨y0, hy0⟩ : ∃ z, x0 - 11 = z := ⟨_, rfl⟩
  obtain ⟨y1, hy1⟩ : ∃ z, x1 - 9 = z := ⟨_, rfl⟩
  have wy0 : IntKind.i64.wrap (x0 - 11) = y0 := by rw [hy0]; exact wrapI (by omega) (by omega)
  have wy1 : IntKind.i64.wrap (x1 - 9) = y1 := by rw [hy1]; exact wrapI (by omega) (by omega)
  rw [hy0, hy1] at hA
  have hWB2 := hWB.draw 0 10 1
  rw [hT] at hWB2
  have hlen : S.length ≤ 1000000 := by omega
  have hlen2 : (drawW S 0 10 1).length ≤ 1000000 := by rw [drawW_len]; omega
  have cDr := fun (w : World) lo hi v (h : St w lo hi v S (0, 0)) => c.draw w lo hi v S (0, 0) 0 10 1 21000000000 h hWB (by decide) (by decide) (by decide) (by decide) hlen
  rw [hT, hok] at cDr
  have cAt := fun (w : World) lo hi v (h : St w lo hi v (drawW S 0 10 1) (9, 11)) => c.at_ w lo hi v _ _ 0 h (by decide) hlen2
  rw [hA, hI] at cAt
  have cTi := fun (w : World) lo hi v (h : St w lo hi v (drawW S 0 10 1) (9, 11)) => c.tip w lo hi v _ _ h
  have cGi := fun (w : World) lo hi v (h : St w lo hi v (drawW S 0 10 1) (9, 11)) => c.give w lo hi v _ _ 1 _ h hWB2 (by decide) (by decide) hlen2
  rw [hGT, hG] at cGi
  have cD1 := fun (w : World) lo hi v (h : St w lo hi v (drawW S 0 10 1) (9, 11)) => d.drop w lo hi v _ _ h
  have cD2 := fun (w : World) lo hi v (h : St w lo hi v (giveW (drawW S 0 10 1) (9, 11) 1) (0, 0)) => d.drop w lo hi v _ _ h
  rw [show (decide ((9, 11).1 = (0 : Int)) && decide ((9, 11).2 = (0 : Int))) = false by decide] at cD1
  rw [show (decide ((0, 0).1 = (0 : Int)) && decide ((0, 0).2 = (0 : Int))) = true by decide] at cD2
  simp only at cAt cTi
  generalize giveW (drawW S 0 10 1) (9, 11) 1 = S3 at *
  generalize drawW S 0 10 1 = S2 at *
  clear hW hT hA hI hG hGT hX hWB hWB2 hp hat hg hlt i0 hok h1 hNl hS1 HX hlen hlen2 hy0 hy1 hR hF d
  go_wp2_with fail
  have qa : B w3 (w3.alloc (.cells #[.int .i64 x0, .int .i64 x1] 38)) := (B.refl _).alloc _ _
  have ob := obj_new w3 (.cells #[.int .i64 x0, .int .i64 x1] 38)
  replace hs := c.keepB hs qa
  have g1 := hq3.trans qa
  generalize w3.alloc (.cells #[.int .i64 x0, .int .i64 x1] 38) = w4 at *
  refine (cDr _ _ _ _ hs).mono ?_
  rintro e w5 ⟨rfl, hs5, g5⟩
  have g2 := g5.b g1 (fun i hi => by have := q1.below.size; omega)
  replace ob := g5.obj (fun hb => by have := hb.2; omega) ob
  generalize w3.heap.size = bx at *
  clear g5 hs cDr qa hq3 k0 k1 g1
  go_wp2_with fail
  refine (cD1 _ _ _ _ hs5).mono ?_
  rintro e w6 ⟨rfl, q⟩
  replace hs5 := c.keepB hs5 q
  replace g2 := g2.trans q
  replace ob := q.obj ob
  clear q cD1
  go_wp2_with fail
  refine (cAt _ _ _ _ hs5).mono ?_
  rintro e w7 ⟨rfl, q⟩
  replace hs5 := c.keepB hs5 q
  replace g2 := g2.trans q
  replace ob := q.obj ob
  clear q cAt
  have hbx := obj_lt ob
  have u0 := obj_cell ob 0
  have u1 := obj_cell ob 1
  go_wp2_with fail
  have qa : B w7 (w7.alloc (.cells #[.int .i64 y0, .int .i64 y1] 38)) := (B.refl _).alloc _ _
  replace hs5 := c.keepB hs5 qa
  replace g2 := g2.trans qa
  generalize w7.alloc (.cells #[.int .i64 y0, .int .i64 y1] 38) = w8 at *
  clear qa u0 u1 ob hbx
  refine (cTi _ _ _ _ hs5).mono ?_
  rintro e w9 ⟨rfl, q⟩
  replace hs5 := c.keepB hs5 q
  replace g2 := g2.trans q
  clear q cTi
  go_wp2_with fail
  refine (cGi _ _ _ _ hs5).mono ?_
  rintro e wA ⟨rfl, hs6, g6⟩
  replace g2 := g6.b g2 (fun i hi => by have := q1.below.size; omega)
  clear g6 hs5 cGi
  go_wp2_with fail
  refine (cD2 _ _ _ _ hs6).mono ?_
  rintro e wB ⟨rfl, q⟩
  replace g2 := g2.trans q
  go_wp2
  go_ret
  exact ⟨rfl, g2⟩
end Go.Proofs.Ytkhaephmpifcmaa

namespace Go.Proofs.Ytkhaephmpifcmaa
open Go.RowKit
theorem u32_wf {k : Int} (w : (Lit.int .u32 k).wf = true) : 0 ≤ k ∧ k ≤ 4294967295 := by
  simp [Lit.wf, IntKind.min, IntKind.max, IntKind.signed, IntKind.bits] at w
  omega
theorem wrapU32 {x : Int} (h0 : 0 ≤ x) (h1 : x ≤ 4294967295) : IntKind.u32.wrap x = x := by
  rw [IntKind.wrap_u32]; omega
theorem wrapU16 {x : Int} (h0 : 0 ≤ x) (h1 : x ≤ 65535) : IntKind.u16.wrap x = x := by
  rw [IntKind.wrap_u16]; omega
end Go.Proofs.Ytkhaephmpifcmaa

namespace Go.Proofs.Ytkhaephmpifcmaa
open Go.RowKit
set_option linter.unusedVariables false
set_option maxRecDepth 100000 in
set_option maxHeartbeats 4000000 in
theorem tsums_law {St : World → Nat → Nat → Value → List Sp2 → Sp2 → Prop} (c : TrkC St) (d : DropC St) (a b g h : Int) (lv : Value) (ll : List Nat) (i v e : Int) (ha : (Lit.int .u8 a).wf = true) (hb : (Lit.int .u8 b).wf = true) (hg : (Lit.int .u8 g).wf = true) (hh : (Lit.int .u8 h).wf = true) (hi : (Lit.int .u8 i).wf = true) (hv : (Lit.int .u16 v).wf = true) (he : (Lit.int .u16 e).wf = true) (w : World) (hU : IsU32s w lv ll) :
    Calls Try.prog 5 #[.int .u8 a, .int .u8 b, .int .u8 g, .int .u8 h, lv, .int .u8 i, .int .u16 v, .int .u16 e] w fun e w' => e = .returned (.bool true) ∧ B w w' := by
  replace ha := u8_wf ha
  replace hb := u8_wf hb
  replace hg := u8_wf hg
  replace hh := u8_wf hh
  obtain ⟨i1, i2⟩ := u8_wf hi
  obtain ⟨v1, v2⟩ := u16_wf hv
  obtain ⟨e1, e2⟩ := u16_wf he
  clear hi hv he
  have cK := fun w => known17_any c d w
  obtain ⟨ao, cap, rfl, hlm, hUl⟩ := hU
  have HU := Lib.hid (show IsU32s w (.slice ao ll.length cap) ll from ⟨ao, cap, rfl, hlm, hUl⟩)
  clear hUl
  obtain ⟨ln, hln⟩ : ∃ ln, ll.length = ln := ⟨_, rfl⟩
  have cB0 := fun (h20 : ll.length ≤ 20) w (hV : IsU32s w (.slice ao ll.length cap) ll) => boards17_any a b g h _ ll h20 ha hb hg hh w hV
  have hR := seat_right ha hb hg hh ll
  have hF : (seatD a b g h ll).fs.length ≤ ll.length := fillsF_len (wares7 a b g h) ll 0
  have h4 := seat_four ha hb hg hh ll
  rw [hln] at HU cB0 hF ⊢
  have HN := Lib.hid hln
  clear hlm hln ha hb hg hh
  generalize seatD a b g h ll = D at *
  by_cases h20 : 20 < ln
  · have h20B : decide ((20 : Int) < (ln : Int)) = true := decide_eq_true (by omega)
    have h20N : decide (20 < ln) = true := decide_eq_true h20
    clear h20 cB0 HN
    go_enter Try.func5, Try.ntmps5
    go_wp2_with fail
    refine (cK _).mono ?_
    rintro e w1 ⟨rfl, q⟩
    go_wp2
    go_ret
    exact ⟨rfl, q⟩
  have h20B : decide ((20 : Int) < (ln : Int)) = false := decide_eq_false (by omega)
  have h20N : decide (20 < ln) = false := decide_eq_false h20
  obtain ⟨k0, ek0⟩ : ∃ z, i % 4 = z := ⟨_, rfl⟩
  have tk0 : i.tmod 4 = k0 := by rw [Int.tmod_eq_emod_of_nonneg (by omega)]; exact ek0
  have bk0 : 0 ≤ k0 ∧ k0 < 4 := by omega
  have xk0 : IntKind.i64.wrap k0 = k0 := wrapI (by omega) (by omega)
  have yk0 : IntKind.u8.wrap k0 = k0 := by first | exact wrapU32 (by omega) (by omega) | exact wrapU16 (by omega) (by omega) | (rw [IntKind.wrap_u8]; omega)
  obtain ⟨k, rfl⟩ : ∃ k : Nat, k0 = (k : Int) := ⟨k0.toNat, by omega⟩
  have hk4 : k < 4 := by omega
  obtain ⟨hS1, hWB⟩ := startD_wb hR
  have wvv : IntKind.i64.wrap v = v := wrapI (by omega) (by omega)
  have wee : IntKind.i64.wrap e = e := wrapI (by omega) (by omega)
  go_enter Try.func5, Try.ntmps5
  go_wp2_with fail
  refine (cK _).mono ?_
  rintro e w0 ⟨rfl, q0⟩
  have cB := cB0 (by omega) w0 (isU32s_keep HU.out q0)
  clear cK cB0
  go_wp2_with fail
  refine cB.mono ?_
  rintro e w1 ⟨P, X, rb, wv, tv, fv, rfl, hPd, hM, hD, ⟨l1, l2, hH⟩, q1⟩
  replace q1 := q0.trans q1
  have cN := c.new P w1 X hM (by rw [hPd]; exact hR) (by rw [hPd]; omega)
  rw [hPd] at cN
  clear cB hM hPd q0 HU
  go_wp2_with fail
  refine cN.mono ?_
  rintro e w2 ⟨v, rfl, hs, q2⟩
  obtain ⟨sa, rfl⟩ := c.ptr hs
  have hs1 := q1.below.size
  have q := q1.trans q2
  generalize startD D = S at *
  have hi1 : hasS S (k : Int) = true := by unfold hasS; simp only [Bool.and_eq_true, decide_eq_true_eq]; omega
  obtain ⟨i0, hlt, hg⟩ := hasS_ix hi1
  rw [show ((k : Int)).toNat = k by omega] at hlt hg
  have hlo := c.top hs
  obtain ⟨hiS, hhi⟩ : ∃ z, w2.heap.size = z := ⟨_, rfl⟩
  rw [hhi] at hs
  have hM1 := hWB.draw (k : Int) v e
  have hlen : S.length ≤ 1000000 := by omega
  have hlen2 : (drawW S (k : Int) v e).length ≤ 1000000 := by rw [drawW_len]; omega
  have hi2 : hasS (drawW S (k : Int) v e) (k : Int) = true := by unfold hasS; rw [drawW_len]; simp only [Bool.and_eq_true, decide_eq_true_eq]; omega
  have hkI : I64 (k : Int) := by unfold I64; omega
  have cA := fun (w : World) lo hi v (h : St w lo hi v S (0, 0)) => c.at_ w lo hi v S (0, 0) (k : Int) h hkI hlen
  have cDr := fun (w : World) lo hi u (h : St w lo hi u S (0, 0)) => c.draw w lo hi u S (0, 0) (k : Int) v e 21000000000 h hWB (by decide) hkI (by unfold I64; omega) (by unfold I64; omega) hlen
  have cA2 := fun (w : World) lo hi u T (h : St w lo hi u (drawW S (k : Int) v e) T) => c.at_ w lo hi u _ T (k : Int) h hkI hlen2
  rw [show atS S (k : Int) = getS S (k : Int) by unfold atS; rw [if_pos hi1], hi1] at cA
  have hgb := hWB.at_ hi1
  obtain ⟨x0, x1, hX⟩ : ∃ x0 x1, getS S (k : Int) = (x0, x1) := ⟨_, _, rfl⟩
  rw [hX] at hgb cA
  simp only at hgb cA
  obtain ⟨ve, hve⟩ : ∃ z, v + e = z := ⟨_, rfl⟩
  have wve : IntKind.i64.wrap (v + e) = ve := by rw [hve]; exact wrapI (by omega) (by omega)
  clear cN hD hH hF
  go_wp2_with fail
  refine (cA _ _ _ _ hs).mono ?_
  rintro e1 w3 ⟨rfl, q9⟩
  replace hs := c.keepB hs q9
  replace q := q.trans q9
  have hle : hiS ≤ w3.heap.size := by have := q9.below.size; omega
  clear q9 cA q2 q1 hhi hlo
  go_wp2_with fail
  have qa : B w3 (w3.alloc (.cells #[.int .i64 x0, .int .i64 x1] 38)) := (B.refl _).alloc _ _
  have ob1 := obj_new w3 (.cells #[.int .i64 x0, .int .i64 x1] 38)
  replace hs := c.keepB hs qa
  replace q := q.trans qa
  generalize w3.alloc (.cells #[.int .i64 x0, .int .i64 x1] 38) = w4 at *
  generalize w3.heap.size = b1 at *
  clear qa
  refine (cDr _ _ _ _ hs).mono ?_
  rintro e1 w5 ⟨rfl, hs5, g5⟩
  replace q := g5.b q (fun i hi => by omega)
  replace ob1 := g5.obj (fun hb => by have := hb.2; omega) ob1
  have hle5 : hiS ≤ w5.heap.size := by have := obj_lt ob1; omega
  clear g5 cDr hs
  cases hok : drawOk S (k : Int) v e with
  | false =>
    have hlow : x0 < ve := by
      have : ¬ (v + e ≤ (getS S (k : Int)).1) := fun hc => by
        have : drawOk S (k : Int) v e = true := by
          unfold drawOk inB
          rw [hi1]
          simp only [Bool.and_eq_true, decide_eq_true_eq]
          exact ⟨⟨⟨trivial, by omega, by omega⟩, by omega, by omega⟩, hc⟩
        rw [hok] at this; cases this
      rw [hX] at this
      simp only at this
      omega
    rw [drawW_no hok, drawT_no hok] at hs5
    have cA3 := fun (w : World) lo hi v (h : St w lo hi v S (0, 0)) => c.at_ w lo hi v S (0, 0) (k : Int) h hkI hlen
    rw [show atS S (k : Int) = getS S (k : Int) by unfold atS; rw [if_pos hi1], hi1, hX] at cA3
    simp only at cA3
    have cD1 := fun (w : World) lo hi v (h : St w lo hi v S (0, 0)) => d.drop w lo hi v _ _ h
    rw [show (decide ((0, 0).1 = (0 : Int)) && decide ((0, 0).2 = (0 : Int))) = true by decide] at cD1
    have dlo : decide (x0 < ve) = true := decide_eq_true hlow
    clear hM1 hWB hlen hlen2 hi2 hi1 cA2 hok hX hgb hve hg hlt i0 h4 hS1 hR hk4
    go_wp2_with fail
    refine (cA3 _ _ _ _ hs5).mono ?_
    rintro e1 w6 ⟨rfl, q9⟩
    replace hs5 := c.keepB hs5 q9
    replace q := q.trans q9
    replace ob1 := q9.obj ob1
    clear q9 cA3
    have hb1 := obj_lt ob1
    have k0 := obj_cell ob1 0
    have k1 := obj_cell ob1 1
    go_wp2_with fail
    have qa : B w6 (w6.alloc (.cells #[.int .i64 x0, .int .i64 x1] 38)) := (B.refl _).alloc _ _
    replace hs5 := c.keepB hs5 qa
    replace q := q.trans qa
    generalize w6.alloc (.cells #[.int .i64 x0, .int .i64 x1] 38) = w7 at *
    clear qa k0 k1 hb1 ob1
    refine (cD1 _ _ _ _ hs5).mono ?_
    rintro e1 w8 ⟨rfl, q9⟩
    replace q := q.trans q9
    clear q9
    go_wp2
    go_ret
    exact ⟨rfl, q⟩
  | true =>
    have hp := (drawOk_parts hok).2.2.2
    rw [hX] at hp
    simp only at hp
    obtain ⟨xm, hxm⟩ : ∃ z, v - e = z := ⟨_, rfl⟩
    have wxm : IntKind.i64.wrap (v - e) = xm := by rw [hxm]; exact wrapI (by omega) (by omega)
    obtain ⟨ls, hls⟩ : ∃ z, max xm 0 = z := ⟨_, rfl⟩
    obtain ⟨y0, hy0⟩ : ∃ z, x0 - ve = z := ⟨_, rfl⟩
    obtain ⟨y1, hy1⟩ : ∃ z, x1 - ls = z := ⟨_, rfl⟩
    obtain ⟨n0, hn0⟩ : ∃ z, y0 + ls = z := ⟨_, rfl⟩
    obtain ⟨n1, hn1⟩ : ∃ z, y1 + ve = z := ⟨_, rfl⟩
    obtain ⟨m0, hm0⟩ : ∃ z, x0 - v = z := ⟨_, rfl⟩
    have wm0 : IntKind.i64.wrap (x0 - v) = m0 := by rw [hm0]; exact wrapI (by omega) (by omega)
    have wm1 : IntKind.i64.wrap (m0 - e) = y0 := by rw [show m0 - e = y0 by omega]; exact wrapI (by omega) (by omega)
    have wy1 : IntKind.i64.wrap (x1 - ls) = y1 := by rw [hy1]; exact wrapI (by omega) (by omega)
    have hW : drawW S (k : Int) v e = S.set k (y0, y1) := by
      unfold drawW
      rw [if_pos hok, hX, show ((k : Int)).toNat = k by omega]
      unfold lessS
      simp only
      rw [hxm, hls, hve, hy0, hy1]
    have hT : drawT S (0, 0) (k : Int) v e = (ls, ve) := by
      unfold drawT
      rw [if_pos hok]
      unfold lessS
      simp only
      rw [hxm, hls, Int.zero_add, Int.zero_add, hve]
    have hgS : getS (S.set k (y0, y1)) (k : Int) = (y0, y1) := by
      unfold getS
      rw [show ((k : Int)).toNat = k by omega, List.getD_eq_getElem?_getD, List.getElem?_set_self hlt]
      rfl
    rw [hW] at hs5 hM1 cA2 hi2 hlen2
    rw [hT] at hs5 hM1
    have hGW : giveW (S.set k (y0, y1)) (ls, ve) (k : Int) = (S.set k (y0, y1)).set k (n0, n1) := by
      unfold giveW
      rw [if_pos hi2, hgS, show ((k : Int)).toNat = k by omega]
      simp only
      rw [hn0, hn1]
    have hGT : giveT (S.set k (y0, y1)) (ls, ve) (k : Int) = (0, 0) := by unfold giveT; rw [if_pos hi2]
    have hlen3 : ((S.set k (y0, y1)).set k (n0, n1)).length ≤ 1000000 := by simp only [List.length_set]; omega
    have hi3 : hasS ((S.set k (y0, y1)).set k (n0, n1)) (k : Int) = true := by unfold hasS; simp only [List.length_set, Bool.and_eq_true, decide_eq_true_eq]; omega
    have hgS3 : getS ((S.set k (y0, y1)).set k (n0, n1)) (k : Int) = (n0, n1) := by
      unfold getS
      rw [show ((k : Int)).toNat = k by omega, List.getD_eq_getElem?_getD, List.getElem?_set_self (by simp only [List.length_set]; omega)]
      rfl
    have cN1 := fun (w : World) lo hi u (h : St w lo hi u (S.set k (y0, y1)) (ls, ve)) => cA2 w lo hi u (ls, ve) h
    rw [show atS (S.set k (y0, y1)) (k : Int) = (y0, y1) by unfold atS; rw [if_pos hi2, hgS], hi2] at cN1
    have cT1 := fun (w : World) lo hi u (h : St w lo hi u (S.set k (y0, y1)) (ls, ve)) => c.tip w lo hi u _ _ h
    have cG1 := fun (w : World) lo hi u (h : St w lo hi u (S.set k (y0, y1)) (ls, ve)) => c.give w lo hi u _ _ (k : Int) _ h hM1 (by decide) hkI hlen2
    rw [hGW, hGT, hi2] at cG1
    have cN2 := fun (w : World) lo hi u (h : St w lo hi u ((S.set k (y0, y1)).set k (n0, n1)) (0, 0)) => c.at_ w lo hi u _ _ (k : Int) h hkI hlen3
    rw [show atS ((S.set k (y0, y1)).set k (n0, n1)) (k : Int) = (n0, n1) by unfold atS; rw [if_pos hi3, hgS3], hi3] at cN2
    have cD1 := fun (w : World) lo hi u (h : St w lo hi u ((S.set k (y0, y1)).set k (n0, n1)) (0, 0)) => d.drop w lo hi u _ _ h
    rw [show (decide ((0, 0).1 = (0 : Int)) && decide ((0, 0).2 = (0 : Int))) = true by decide] at cD1
    simp only at cN1 cT1 cN2
    have dn0 : decide (n0 ≤ x0) = true := decide_eq_true (by omega)
    have dn1 : decide (x1 ≤ n1) = true := decide_eq_true (by omega)
    generalize (S.set k (y0, y1)).set k (n0, n1) = S3 at *
    generalize S.set k (y0, y1) = S2 at *
    clear hM1 hWB hlen hlen2 hi2 hi1 cA2 hok hX hgb hg hlt i0 h4 hS1 hR hk4 hW hT hgS hGW hGT hlen3 hi3 hgS3 hp hy0 hy1 hn0 hn1 hm0 hxm hve
    go_wp2_with fail
    refine (cN1 _ _ _ _ hs5).mono ?_
    rintro e1 w6 ⟨rfl, q9⟩
    replace hs5 := c.keepB hs5 q9
    replace q := q.trans q9
    replace ob1 := q9.obj ob1
    have hle6 : hiS ≤ w6.heap.size := by have := q9.below.size; omega
    clear q9 cN1
    go_wp2_with fail
    have qa : B w6 (w6.alloc (.cells #[.int .i64 y0, .int .i64 y1] 38)) := (B.refl _).alloc _ _
    have ob2 := obj_new w6 (.cells #[.int .i64 y0, .int .i64 y1] 38)
    replace hs5 := c.keepB hs5 qa
    replace q := q.trans qa
    replace ob1 := qa.obj ob1
    generalize w6.alloc (.cells #[.int .i64 y0, .int .i64 y1] 38) = w7 at *
    generalize w6.heap.size = b2 at *
    clear qa
    refine (cT1 _ _ _ _ hs5).mono ?_
    rintro e1 w8 ⟨rfl, q9⟩
    replace hs5 := c.keepB hs5 q9
    replace q := q.trans q9
    replace ob1 := q9.obj ob1
    replace ob2 := q9.obj ob2
    have hle8 : hiS ≤ w8.heap.size := by have := obj_lt ob2; omega
    clear q9 cT1
    have hb1 := obj_lt ob1
    have hb2 := obj_lt ob2
    have i0 := obj_cell ob1 0
    have i1 := obj_cell ob1 1
    have j0 := obj_cell ob2 0
    have j1 := obj_cell ob2 1
    go_wp2_with fail
    have qa : B w8 (w8.alloc (.cells #[.int .i64 ls, .int .i64 ve] 38)) := (B.refl _).alloc _ _
    replace hs5 := c.keepB hs5 qa
    replace q := q.trans qa
    replace ob1 := qa.obj ob1
    clear i0 i1 j0 j1 hb1 hb2 ob2
    generalize w8.alloc (.cells #[.int .i64 ls, .int .i64 ve] 38) = w9 at *
    generalize w8.heap.size = b3 at *
    clear qa
    refine (cG1 _ _ _ _ hs5).mono ?_
    rintro e1 wA ⟨rfl, hsA, gA⟩
    replace q := gA.b q (fun i hi => by omega)
    replace ob1 := gA.obj (fun hb => by have := hb.2; omega) ob1
    clear gA cG1 hs5
    go_wp2_with fail
    refine (cN2 _ _ _ _ hsA).mono ?_
    rintro e1 wB ⟨rfl, q9⟩
    replace hsA := c.keepB hsA q9
    replace q := q.trans q9
    replace ob1 := q9.obj ob1
    clear q9 cN2
    have hb1 := obj_lt ob1
    have i0 := obj_cell ob1 0
    have i1 := obj_cell ob1 1
    go_wp2_with fail
    have qa : B wB (wB.alloc (.cells #[.int .i64 n0, .int .i64 n1] 38)) := (B.refl _).alloc _ _
    replace hsA := c.keepB hsA qa
    replace q := q.trans qa
    generalize wB.alloc (.cells #[.int .i64 n0, .int .i64 n1] 38) = wC at *
    clear qa i0 i1 hb1 ob1
    refine (cD1 _ _ _ _ hsA).mono ?_
    rintro e1 wD ⟨rfl, q9⟩
    replace q := q.trans q9
    clear q9
    go_wp2
    go_ret
    exact ⟨rfl, q⟩
end Go.Proofs.Ytkhaephmpifcmaa

namespace Go.Proofs.Ytkhaephmpifcmaa
open Go.RowKit
set_option linter.unusedVariables false
def nameP17 : ByteArray := ⟨#[112]⟩
def emD (f : Int) : Dk := ⟨[⟨nameP17, 1, 1, 0, shapeOf 0⟩], [], [⟨nameP17, 0, 0, f⟩]⟩
theorem emD_right {f : Int} (h : inB f 0 20000000 = true) : rightD (emD f) = true := by
  have h1 : fillsOk (emD f).ws (emD f).fs = true := by
    show ((hasW (emD f).ws nameP17 0 0 && inB f 0 20000000 && !filledW [] nameP17 0 0) && true) = true
    rw [h]
    kernel_rfl
  have h2 : apartW wareOk (emD f).ws = true := by kernel_rfl
  unfold rightD
  rw [h1, h2]
  rfl
theorem emD_start (f : Int) : startD (emD f) = [(max (f - 0) 0, f + 0)] := by kernel_rfl
theorem em_ok {F n e : Int} (hF : F ≤ 2000000) (hn : n ≤ 3000000) (he : 0 ≤ e ∧ e < F) : drawOk [(F, F)] 0 n e = (decide (n + e ≤ F) && decide (0 ≤ n)) := by
  unfold drawOk inB hasS getS
  simp only [List.length_cons, List.length_nil, Int.toNat_zero, List.getD_cons_zero]
  rw [decide_eq_true (show (0 : Int) ≤ 0 by omega), decide_eq_true (show (0 : Int) < ((0 + 1 : Nat) : Int) by omega), decide_eq_true (show n ≤ 1000000000 by omega), decide_eq_true (show 0 ≤ e by omega), decide_eq_true (show e ≤ 1000000000 by omega)]
  simp only [Bool.true_and, Bool.and_true]
  exact Bool.and_comm _ _
set_option maxRecDepth 100000 in
set_option maxHeartbeats 4000000 in
theorem empty17_law {St : World → Nat → Nat → Value → List Sp2 → Sp2 → Prop} (c : TrkC St) (d : DropC St) (v e k : Int) (hv : (Lit.int .u32 v).wf = true) (he : (Lit.int .u16 e).wf = true) (hk : (Lit.int .u8 k).wf = true) (w : World) :
    Calls Try.prog 6 #[.int .u32 v, .int .u16 e, .int .u8 k] w fun e w' => e = .returned (.bool true) ∧ B w w' := by
  obtain ⟨v1, v2⟩ := u32_wf hv
  obtain ⟨e1, e2⟩ := u16_wf he
  obtain ⟨k1, k2⟩ := u8_wf hk
  clear hv he hk
  have ck := known17_any c d w
  have cS := fun w' => shape_any 0 (by omega) (by omega) w'
  obtain ⟨m, hm⟩ : ∃ m, v % 1000000 = m := ⟨_, rfl⟩
  have hmT : v.tmod 1000000 = m := by rw [Int.tmod_eq_emod_of_nonneg (by omega)]; exact hm
  have u1 : IntKind.u32.wrap m = m := wrapU32 (by omega) (by omega)
  have u2 : IntKind.i64.wrap m = m := wrapI (by omega) (by omega)
  obtain ⟨F, hF⟩ : ∃ F, m + 10 = F := ⟨_, rfl⟩
  have u3 : IntKind.i64.wrap (m + 10) = F := by rw [hF]; exact wrapI (by omega) (by omega)
  have hFB : 10 ≤ F ∧ F ≤ 1000009 := by omega
  have hF0 : ¬ F = 0 := by omega
  have u4 : IntKind.i64.wrap e = e := wrapI (by omega) (by omega)
  obtain ⟨E, hE⟩ : ∃ E, e % F = E := ⟨_, rfl⟩
  have hET : e.tmod F = E := by rw [Int.tmod_eq_emod_of_nonneg (by omega)]; exact hE
  have hEB : 0 ≤ E ∧ E < F := by rw [← hE]; exact ⟨Int.emod_nonneg _ hF0, Int.emod_lt_of_pos _ (by omega)⟩
  have u5 : IntKind.i64.wrap E = E := wrapI (by omega) (by omega)
  obtain ⟨r, hr⟩ : ∃ r, k % 5 = r := ⟨_, rfl⟩
  have hrT : k.tmod 5 = r := by rw [Int.tmod_eq_emod_of_nonneg (by omega)]; exact hr
  have u6 : IntKind.u8.wrap r = r := by rw [IntKind.wrap_u8]; omega
  have u7 : IntKind.i64.wrap r = r := wrapI (by omega) (by omega)
  obtain ⟨s1, hs1⟩ : ∃ z, F - E = z := ⟨_, rfl⟩
  have u8 : IntKind.i64.wrap (F - E) = s1 := by rw [hs1]; exact wrapI (by omega) (by omega)
  obtain ⟨s2, hs2⟩ : ∃ z, s1 - 2 = z := ⟨_, rfl⟩
  have u9 : IntKind.i64.wrap (s1 - 2) = s2 := by rw [hs2]; exact wrapI (by omega) (by omega)
  obtain ⟨n, hn⟩ : ∃ z, s2 + r = z := ⟨_, rfl⟩
  have u10 : IntKind.i64.wrap (s2 + r) = n := by rw [hn]; exact wrapI (by omega) (by omega)
  obtain ⟨ne, hne⟩ : ∃ z, n + E = z := ⟨_, rfl⟩
  have u11 : IntKind.i64.wrap (n + E) = ne := by rw [hne]; exact wrapI (by omega) (by omega)
  have hnB : -1 ≤ n ∧ n ≤ 1000020 := by omega
  have hok := em_ok (F := F) (n := n) (e := E) (by omega) (by omega) hEB
  rw [hne] at hok
  have hright := emD_right (f := F) (by unfold inB; simp only [Bool.and_eq_true, decide_eq_true_eq]; omega)
  have hst := emD_start F
  rw [show max (F - 0) 0 = F by omega, show F + 0 = F by omega] at hst
  obtain ⟨hSl, hWB⟩ := startD_wb hright
  rw [hst] at hWB
  clear hm hr hE hF hs1 hs2 hn hne hSl
  have hi0 : hasS [(F, F)] 0 = true := by unfold hasS; simp
  have hWB2 := hWB.draw 0 n E
  have cDr := fun (w : World) lo hi u (h : St w lo hi u [(F, F)] (0, 0)) => c.draw w lo hi u _ _ 0 n E _ h hWB (by decide) (by decide) (by unfold I64; omega) (by unfold I64; omega) (by simp)
  have hl2 : (drawW [(F, F)] 0 n E).length = 1 := by rw [drawW_len]; rfl
  have hx1 : drawOk (drawW [(F, F)] 0 n E) 1 1 0 = false := by unfold drawOk hasS; rw [hl2]; rfl
  have hx2 : drawOk (drawW [(F, F)] 0 n E) 0 (-1) 0 = false := by
    unfold drawOk
    rw [show inB (-1) 0 1000000000 = false by decide]
    simp
  have hx3 : drawOk (drawW [(F, F)] 0 n E) 0 1 (-1) = false := by
    unfold drawOk
    rw [show inB (-1) 0 1000000000 = false by decide]
    simp
  have cX1 := fun (w : World) lo hi u (h : St w lo hi u (drawW [(F, F)] 0 n E) (drawT [(F, F)] (0, 0) 0 n E)) => c.draw w lo hi u _ _ 1 1 0 _ h hWB2 (by decide) (by decide) (by decide) (by decide) (by omega)
  have cX2 := fun (w : World) lo hi u (h : St w lo hi u (drawW [(F, F)] 0 n E) (drawT [(F, F)] (0, 0) 0 n E)) => c.draw w lo hi u _ _ 0 (-1) 0 _ h hWB2 (by decide) (by decide) (by decide) (by decide) (by omega)
  have cX3 := fun (w : World) lo hi u (h : St w lo hi u (drawW [(F, F)] 0 n E) (drawT [(F, F)] (0, 0) 0 n E)) => c.draw w lo hi u _ _ 0 1 (-1) _ h hWB2 (by decide) (by decide) (by decide) (by decide) (by omega)
  rw [hx1] at cX1
  rw [hx2] at cX2
  rw [hx3] at cX3
  rw [hok] at cDr
  generalize drawW [(F, F)] 0 n E = S2 at *
  generalize drawT [(F, F)] (0, 0) 0 n E = T2 at *
  clear hWB hWB2 hi0 hok d
  go_enter Try.func6, Try.ntmps6
  go_wp2_with fail
  refine ck.mono ?_
  rintro e1 w1 ⟨rfl, q1⟩
  go_wp2_with fail
  refine (cS _).mono ?_
  rintro e1 w2 ⟨sv, rfl, hs, q2⟩
  obtain ⟨so, sc, rfl⟩ := secs_form hs
  go_wp2_with fail
  have hz : (w2.alloc (.cells #[.string ⟨#[112]⟩, .int .i64 1, .int .i64 1, .int .i64 0, .slice so (shapeOf 0).length sc] 58)).heap.size = w2.heap.size + 1 := by simp
  have oa := World.ownsRow_lit (base := w2.heap.size) (e := 58) (size := 5) w2 #[.string ⟨#[112]⟩, .int .i64 1, .int .i64 1, .int .i64 0, .slice so (shapeOf 0).length sc] 1 (Nat.le_refl _) (by decide) rfl
  have ob := World.ownsRow_lit (base := w2.heap.size) (e := 63) (size := 4) (w2.alloc (.cells #[.string ⟨#[112]⟩, .int .i64 1, .int .i64 1, .int .i64 0, .slice so (shapeOf 0).length sc] 58)) #[.string ⟨#[112]⟩, .int .i64 0, .int .i64 0, .int .i64 F] 1 (by omega) (by decide) rfl
  rw [hz] at ob
  have qA : B w2 (w2.alloc (.cells #[.string ⟨#[112]⟩, .int .i64 1, .int .i64 1, .int .i64 0, .slice so (shapeOf 0).length sc] 58)) := (B.refl _).alloc _ _
  have qBC : B (w2.alloc (.cells #[.string ⟨#[112]⟩, .int .i64 1, .int .i64 1, .int .i64 0, .slice so (shapeOf 0).length sc] 58)) (((w2.alloc (.cells #[.string ⟨#[112]⟩, .int .i64 1, .int .i64 1, .int .i64 0, .slice so (shapeOf 0).length sc] 58)).alloc (.cells #[.string ⟨#[112]⟩, .int .i64 0, .int .i64 0, .int .i64 F] 63)).alloc (.cells #[.slice (some ⟨w2.heap.size, 0, none⟩) 1 1, .slice none 0 0, .slice (some ⟨w2.heap.size + 1, 0, none⟩) 1 1] 67)) := ((B.refl _).alloc _ _).alloc _ _
  have qC : B ((w2.alloc (.cells #[.string ⟨#[112]⟩, .int .i64 1, .int .i64 1, .int .i64 0, .slice so (shapeOf 0).length sc] 58)).alloc (.cells #[.string ⟨#[112]⟩, .int .i64 0, .int .i64 0, .int .i64 F] 63)) (((w2.alloc (.cells #[.string ⟨#[112]⟩, .int .i64 1, .int .i64 1, .int .i64 0, .slice so (shapeOf 0).length sc] 58)).alloc (.cells #[.string ⟨#[112]⟩, .int .i64 0, .int .i64 0, .int .i64 F] 63)).alloc (.cells #[.slice (some ⟨w2.heap.size, 0, none⟩) 1 1, .slice none 0 0, .slice (some ⟨w2.heap.size + 1, 0, none⟩) 1 1] 67)) := (B.refl _).alloc _ _
  have hD : IsDk (((w2.alloc (.cells #[.string ⟨#[112]⟩, .int .i64 1, .int .i64 1, .int .i64 0, .slice so (shapeOf 0).length sc] 58)).alloc (.cells #[.string ⟨#[112]⟩, .int .i64 0, .int .i64 0, .int .i64 F] 63)).alloc (.cells #[.slice (some ⟨w2.heap.size, 0, none⟩) 1 1, .slice none 0 0, .slice (some ⟨w2.heap.size + 1, 0, none⟩) 1 1] 67)) (.slice (some ⟨w2.heap.size, 0, none⟩) 1 1) (.slice none 0 0) (.slice (some ⟨w2.heap.size + 1, 0, none⟩) 1 1) (emD F) :=
    ⟨(isRecs_own (L := [⟨nameP17, 1, 1, 0, shapeOf 0⟩]) (vs := [.slice so (shapeOf 0).length sc]) oa rfl (fun i r v h1 h2 => by
        match i, h1, h2 with
        | 0, h1, h2 =>
          cases h1
          cases h2
          exact IsSecs.keepB hs qA
        | j + 1, h1, h2 => simp at h1)).keepB qBC, .inl ⟨rfl, rfl⟩, (isFls_own (L := [⟨nameP17, 0, 0, F⟩]) ob).keepB qC⟩
  have cN := dnew_right _ _ _ _ _ hD hright (show 1 < 1000 by omega)
  have hq0 := (q1.trans q2.b).trans (qA.trans qBC)
  have HQ := Lib.hid hq0
  clear hD oa ob hz qA qBC qC hs q1 q2 hq0 ck cS
  refine cN.mono ?_
  rintro e1 w3 ⟨P, X, rfl, hPd, hM, _, _, q3⟩
  have cT := c.new P w3 X hM (by rw [hPd]; exact hright) (by rw [hPd]; show 1 ≤ 1000; omega)
  rw [hPd, hst] at cT
  have q := HQ.out.trans q3
  generalize P.b = pb at *
  clear cN hM hPd HQ q3 hst hright
  go_wp2_with fail
  refine cT.mono ?_
  rintro e1 w4 ⟨u, rfl, hs, q4⟩
  obtain ⟨sa, rfl⟩ := c.ptr hs
  have hsz := q.below.size
  replace q := q.trans q4
  clear q4 cT
  cases hb1 : decide (ne ≤ F) <;> cases hb2 : decide (0 ≤ n)
  all_goals
    rw [hb1, hb2] at cDr
    go_wp2_with fail
    refine (cDr _ _ _ _ hs).mono ?_
    rintro e1 w5 ⟨rfl, hs5, g5⟩
    replace q := g5.b q (fun i hi => by omega)
    clear g5 hs
    rename St w5 _ _ _ _ _ => hs
    go_wp2_with fail
    refine (cX1 _ _ _ _ hs).mono ?_
    rintro e1 wS ⟨rfl, hs', g5⟩
    rw [drawW_no hx1, drawT_no hx1] at hs'
    replace q := g5.b q (fun i hi => by omega)
    replace hs := hs'
    clear hs' g5
    go_wp2_with fail
    refine (cX2 _ _ _ _ hs).mono ?_
    rintro e1 wS ⟨rfl, hs', g5⟩
    rw [drawW_no hx2, drawT_no hx2] at hs'
    replace q := g5.b q (fun i hi => by omega)
    replace hs := hs'
    clear hs' g5
    go_wp2_with fail
    refine (cX3 _ _ _ _ hs).mono ?_
    rintro e1 wS ⟨rfl, hs', g5⟩
    rw [drawW_no hx3, drawT_no hx3] at hs'
    replace q := g5.b q (fun i hi => by omega)
    replace hs := hs'
    clear hs' g5
    go_wp2
    go_ret
    exact ⟨rfl, q⟩
end Go.Proofs.Ytkhaephmpifcmaa

namespace Go.Proofs.Ytkhaephmpifcmaa
open Go.RowKit
set_option linter.unusedVariables false
structure Act7 where
  k : Int
  i : Int
  v : Int
  e : Int
structure ActAt (w : World) (p : Addr) (z : Act7) : Prop where
  k : w.cell? p = some (.int .u8 z.k)
  i : w.cell? ⟨p.block, p.off + 1, none⟩ = some (.int .i64 z.i)
  v : w.cell? ⟨p.block, p.off + 2, none⟩ = some (.int .i64 z.v)
  e : w.cell? ⟨p.block, p.off + 3, none⟩ = some (.int .i64 z.e)
  s : p.spot = none
  l : (0 ≤ z.k ∧ z.k ≤ 255) ∧ I64 z.i ∧ I64 z.v ∧ I64 z.e
theorem ActAt.keepB {w w' : World} {p : Addr} {z : Act7} (h : ActAt w p z) (q : B w w') : ActAt w' p z := ⟨q.keep h.k, q.keep h.i, q.keep h.v, q.keep h.e, h.s, h.l⟩
def IsActs (w : World) (v : Value) (L : List Act7) : Prop :=
  (v = .slice none 0 0 ∧ L = []) ∨
  ∃ (a : Addr) (cap : Nat), v = .slice (some a) L.length cap ∧ L.length ≤ cap ∧ cap ≤ maxLen ∧ ∀ i f, L[i]? = some f → ActAt w (a.add (i * 4)) f
theorem IsActs.keepB {w w' : World} {v : Value} {L : List Act7} (h : IsActs w v L) (q : B w w') : IsActs w' v L := by
  rcases h with h | ⟨a, cap, h1, h2, h3, h4⟩
  · exact .inl h
  · exact .inr ⟨a, cap, h1, h2, h3, fun i f hf => (h4 i f hf).keepB q⟩
/-- An element, cell by cell. -/
structure ActC (w : World) (b p : Nat) (z : Act7) : Prop where
  k : w.cell? ⟨b, p, none⟩ = some (.int .u8 z.k)
  i : w.cell? ⟨b, p + 1, none⟩ = some (.int .i64 z.i)
  v : w.cell? ⟨b, p + 2, none⟩ = some (.int .i64 z.v)
  e : w.cell? ⟨b, p + 3, none⟩ = some (.int .i64 z.e)
  l : (0 ≤ z.k ∧ z.k ≤ 255) ∧ I64 z.i ∧ I64 z.v ∧ I64 z.e
theorem ActC.keepB {w w' : World} {b p : Nat} {z : Act7} (h : ActC w b p z) (q : B w w') : ActC w' b p z := ⟨q.keep h.k, q.keep h.i, q.keep h.v, q.keep h.e, h.l⟩
theorem IsActs.form {w : World} {v : Value} {L : List Act7} (h : IsActs w v L) : ∃ o cap, v = .slice o L.length cap ∧ L.length ≤ maxLen ∧ ∀ i f, L[i]? = some f → ∃ b p, o = some ⟨b, p, none⟩ ∧ ActC w b (p + i * 4) f := by
  rcases h with ⟨rfl, rfl⟩ | ⟨a, cap, h1, h2, h3, h4⟩
  · exact ⟨none, 0, rfl, Nat.zero_le _, fun i f hf => by simp at hf⟩
  · refine ⟨some a, cap, h1, by omega, fun i f hf => ?_⟩
    have hl : 0 < L.length := by have := (List.getElem?_eq_some_iff.1 hf).1; omega
    have h0 := (h4 0 _ (List.getElem?_eq_getElem hl)).s
    obtain ⟨b, p, s⟩ := a
    obtain rfl : s = none := by simpa [Addr.add] using h0
    have hx := h4 i f hf
    have he : Addr.add ⟨b, p, none⟩ (i * 4) = ⟨b, p + i * 4, none⟩ := by
      unfold Addr.add
      split
      · rename_i hz
        simp only [hz, Nat.add_zero]
      · rfl
    rw [he] at hx
    exact ⟨b, p, rfl, hx.k, hx.i, hx.v, hx.e, hx.l⟩
end Go.Proofs.Ytkhaephmpifcmaa

namespace Go.Proofs.Ytkhaephmpifcmaa
open Go.RowKit
set_option linter.unusedVariables false
set_option maxRecDepth 100000 in
set_option maxHeartbeats 8000000 in
theorem plays17_law {St : World → Nat → Nat → Value → List Sp2 → Sp2 → Prop} (c : TrkC St) (d : DropC St) (cc : CloneC St) (a b g h : Int) (lv : Value) (ll : List Nat) (av : Value) (al : List Act7) (ha : (Lit.int .u8 a).wf = true) (hb : (Lit.int .u8 b).wf = true) (hg : (Lit.int .u8 g).wf = true) (hh : (Lit.int .u8 h).wf = true) (w : World) (hU : IsU32s w lv ll) (hAc : IsActs w av al) :
    Calls Try.prog 3 #[.int .u8 a, .int .u8 b, .int .u8 g, .int .u8 h, lv, av] w fun e w' => e = .returned (.bool true) ∧ B w w' := by
  replace ha := u8_wf ha
  replace hb := u8_wf hb
  replace hg := u8_wf hg
  replace hh := u8_wf hh
  have cK := fun w => known17_any c d w
  obtain ⟨ao, cap, rfl, hlm, hUl⟩ := hU
  have HU := Lib.hid (show IsU32s w (.slice ao ll.length cap) ll from ⟨ao, cap, rfl, hlm, hUl⟩)
  clear hUl
  obtain ⟨bo, bcap, rfl, hbm, hAt⟩ := hAc.form
  have HA0 := Lib.hid hAt
  clear hAt hAc
  obtain ⟨ln, hln⟩ : ∃ ln, ll.length = ln := ⟨_, rfl⟩
  obtain ⟨an, han⟩ : ∃ an, al.length = an := ⟨_, rfl⟩
  have cB0 := fun (h20 : ll.length ≤ 20) w (hV : IsU32s w (.slice ao ll.length cap) ll) => boards17_any a b g h _ ll h20 ha hb hg hh w hV
  have hR := seat_right ha hb hg hh ll
  have hF : (seatD a b g h ll).fs.length ≤ ll.length := fillsF_len (wares7 a b g h) ll 0
  have h4 := seat_four ha hb hg hh ll
  rw [hln] at HU cB0 hF ⊢
  rw [han] at ⊢ hbm
  have HN := Lib.hid (And.intro hln han)
  clear hlm hln han ha hb hg hh
  generalize seatD a b g h ll = D at *
  by_cases h20 : 20 < ln
  · have h20B : decide ((20 : Int) < (ln : Int)) = true := decide_eq_true (by omega)
    have h20N : decide (20 < ln) = true := decide_eq_true h20
    clear h20 cB0 HN
    go_enter Try.func3, Try.ntmps3
    go_wp2_with fail
    refine (cK _).mono ?_
    rintro e w1 ⟨rfl, q⟩
    go_wp2
    go_ret
    exact ⟨rfl, q⟩
  have h20B : decide ((20 : Int) < (ln : Int)) = false := decide_eq_false (by omega)
  have h20N : decide (20 < ln) = false := decide_eq_false h20
  by_cases h40 : 40 < an
  · have h40B : decide ((40 : Int) < (an : Int)) = true := decide_eq_true (by omega)
    have h40N : decide (40 < an) = true := decide_eq_true h40
    clear h20 h40 cB0 HN
    go_enter Try.func3, Try.ntmps3
    go_wp2_with fail
    refine (cK _).mono ?_
    rintro e w1 ⟨rfl, q⟩
    go_wp2
    go_ret
    exact ⟨rfl, q⟩
  have h40B : decide ((40 : Int) < (an : Int)) = false := decide_eq_false (by omega)
  have h40N : decide (40 < an) = false := decide_eq_false h40
  obtain ⟨hS1, hWB⟩ := startD_wb hR
  go_enter Try.func3, Try.ntmps3
  go_wp2_with fail
  refine (cK _).mono ?_
  rintro e w0 ⟨rfl, q0⟩
  have cB := cB0 (by omega) w0 (isU32s_keep HU.out q0)
  clear cK cB0
  go_wp2_with fail
  refine cB.mono ?_
  rintro e w1 ⟨P, X, rb, wv, tv, fv, rfl, hPd, hM, hD, ⟨l1, l2, hH⟩, q1⟩
  replace q1 := q0.trans q1
  have cN := c.new P w1 X hM (by rw [hPd]; exact hR) (by rw [hPd]; omega)
  rw [hPd] at cN
  clear cB hM hPd q0 HU
  go_wp2_with fail
  refine cN.mono ?_
  rintro e w2 ⟨v, rfl, hs, q2⟩
  obtain ⟨sa, rfl⟩ := c.ptr hs
  have hs1 := q1.below.size
  have q := q1.trans q2
  have cT := r11track_any D rb l1 l2 wv tv fv w2 (hH.keepB q2) (hD.keepB q2) hR (by omega)
  generalize startD D = S at *
  have hsz2 := q2.below.size
  clear cN hD hH hF hR q2
  have hlo := c.top hs
  obtain ⟨hi1, hhi1⟩ : ∃ z, w2.heap.size = z := ⟨_, rfl⟩
  obtain ⟨lo1, hlo1⟩ : ∃ z, w1.heap.size = z := ⟨_, rfl⟩
  rw [hhi1] at hs hlo hsz2
  rw [hlo1] at hs hs1 hsz2
  go_wp2_with fail
  refine cT.mono ?_
  rintro e w3 ⟨u, rfl, hd, q3⟩
  replace hs := c.keepB hs q3
  replace q := q.trans q3
  rw [hhi1] at hd
  obtain ⟨hi2, hhi2⟩ : ∃ z, w3.heap.size = z := ⟨_, rfl⟩
  rw [hhi2] at hd
  obtain ⟨bd, hbd⟩ : ∃ bd, u = .pointer (some ⟨bd, 0, none⟩) := by obtain ⟨b, _, _, h, _⟩ := hd; exact ⟨b, h⟩
  subst hbd
  have HS := Lib.hid (And.intro hs (And.intro hd (And.intro q (And.intro hS1 hWB))))
  have hlw : w.heap.size ≤ lo1 := by omega
  have hll : lo1 ≤ hi1 := by omega
  clear cT hs hd q q3 hS1 hWB q1 hhi1 hlo1 hhi2 hlo hs1
  go_wp2_with fail
  have W0 := HS.out
  obtain ⟨NW, hNW⟩ : ∃ z, S.length = z := ⟨_, rfl⟩
  have hNW1 : NW ≤ 1000 ∧ 4 ≤ NW := by omega
  clear h4
  go_loopw [18] (fun iv wr => ∃ (i : Nat) (W : List Sp2) (T : Sp2), i ≤ an ∧ iv = .int .i64 i ∧ W.length = NW ∧ WB W T (21000000000 + 2000000000 * (i : Int)) ∧ St wr lo1 hi1 (.pointer (some sa)) W T ∧ StT 43 wr hi1 hi2 (.pointer (some ⟨bd, 0, none⟩)) W T ∧ B w wr) (fun iv _ => an + 1 - (intOf iv).toNat)
  case atStart => exact ⟨0, S, (0, 0), Nat.zero_le _, rfl, hNW, HS.out.2.2.2.2.more (by omega), HS.out.1, HS.out.2.1, HS.out.2.2.1⟩
  case round =>
    clear W0 HS hNW
    obtain ⟨i, W, T, hi, rfl, hWl, hWB, hs, hd, q⟩ := hrel
    obtain ⟨wl, rfl⟩ : ∃ wl : World, wl = wr := ⟨_, rfl⟩
    by_cases hl : i < an
    · have hlB : decide ((i : Int) < (an : Int)) = true := decide_eq_true (by omega)
      have hlN : decide (i < an) = true := decide_eq_true hl
      have hlI : (i : Int) < (an : Int) := by omega
      have hi0 : (0 : Int) ≤ (i : Int) := by omega
      obtain ⟨x, hx⟩ : ∃ x, al[i]? = some x := ⟨_, List.getElem?_eq_getElem (by rw [HN.out.2]; exact hl)⟩
      obtain ⟨pb, po, hp0, hxa⟩ := HA0.out i x hx
      subst hp0
      replace hxa := hxa.keepB q
      obtain ⟨ak, ai, av, ae⟩ := x
      obtain ⟨c0, c1, c2, c3, cl⟩ := hxa
      simp only at c0 c1 c2 c3 cl
      obtain ⟨⟨ak0, ak1⟩, aiI, avI, aeI⟩ := cl
      obtain ⟨i4, hi4⟩ : ∃ z, i % 4 = z := ⟨_, rfl⟩
      have ti4 : (i : Int).tmod 4 = (i4 : Int) := by rw [← hi4]; exact (Int.ofNat_tmod i 4).symm
      have wi4 : IntKind.i64.wrap (i4 : Int) = (i4 : Int) := wrapI (by omega) (by omega)
      have HB := Lib.hid (And.intro hx (And.intro hl (And.intro hWl (And.intro hWB (And.intro hs (And.intro hd q))))))
      clear hx hl hWl hWB hs hd q hi hi4
      go_wp2_with fail
      have qa : B wl (wl.alloc (.cells #[.int .u8 ak, .int .i64 ai, .int .i64 av, .int .i64 ae] 34)) := (B.refl _).alloc _ _
      have ob := obj_new wl (.cells #[.int .u8 ak, .int .i64 ai, .int .i64 av, .int .i64 ae] 34)
      generalize wl.alloc (.cells #[.int .u8 ak, .int .i64 ai, .int .i64 av, .int .i64 ae] 34) = W5 at *
      generalize wl.heap.size = bx at *
      have a0 := obj_cell ob 0
      have a1 := obj_cell ob 1
      have a2 := obj_cell ob 2
      have a3 := obj_cell ob 3
      clear c0 c1 c2 c3
      go_quiet (fail)
      go_upto_if 76 with fail
      have qn : B W5 (W5.drewN nq) := (B.refl _).drewN _
      replace ob := qn.obj ob
      replace qa := qa.trans qn
      clear qn a0 a1 a2 a3
      generalize W5.drewN nq = W6 at *
      have a0 := obj_cell ob 0
      have a1 := obj_cell ob 1
      have a2 := obj_cell ob 2
      have a3 := obj_cell ob 3
      have hbx := obj_lt ob
      go_cut [20, 21, 22] (fun a b c wx => ∃ k v e, a = .int .i64 k ∧ b = .int .i64 v ∧ c = .int .i64 e ∧ I64 k ∧ I64 v ∧ I64 e ∧ B W6 wx)
      case first =>
        by_cases hz : 0 < i4
        · have hzB : decide ((0 : Int) < (i4 : Int)) = true := decide_eq_true (by omega)
          have hzN : decide (0 < i4) = true := decide_eq_true hz
          obtain ⟨k1, hk1⟩ : ∃ z, bits BinOp.and IntKind.i64 ai 7 = z := ⟨_, rfl⟩
          obtain ⟨v1, hv1⟩ : ∃ z, bits BinOp.and IntKind.i64 av 16383 = z := ⟨_, rfl⟩
          obtain ⟨e1, he1⟩ : ∃ z, bits BinOp.and IntKind.i64 ae 255 = z := ⟨_, rfl⟩
          have ik : I64 k1 := by rw [← hk1]; exact ⟨bits_lo_i64 _ _ _, bits_hi_i64 _ _ _⟩
          have iv : I64 v1 := by rw [← hv1]; exact ⟨bits_lo_i64 _ _ _, bits_hi_i64 _ _ _⟩
          have ie : I64 e1 := by rw [← he1]; exact ⟨bits_lo_i64 _ _ _, bits_hi_i64 _ _ _⟩
          go_wp2_with fail
          go_quiet (fail)
          go_wp2_with fail
          go_meet
          case rel => exact ⟨k1, v1, e1, rfl, rfl, rfl, ik, iv, ie, (B.refl _).drewN _⟩
        · have hzB : decide ((0 : Int) < (i4 : Int)) = false := decide_eq_false (by omega)
          have hzN : decide (0 < i4) = false := decide_eq_false hz
          go_wp2_with fail
          go_meet
          case rel => exact ⟨ai, av, ae, rfl, rfl, rfl, aiI, avI, aeI, B.refl _⟩
      case rest =>
        obtain ⟨k, v, e, rfl, rfl, rfl, kI, vI, eI, qc⟩ := hcut
        replace ob := qc.obj ob
        replace qa := qa.trans qc
        have a0 := obj_cell ob 0
        obtain ⟨m, hm⟩ : ∃ z, ak % 8 = z := ⟨_, rfl⟩
        have tm : ak.tmod 8 = m := by rw [Int.tmod_eq_emod_of_nonneg (by omega)]; exact hm
        have wm : IntKind.u8.wrap m = m := by rw [IntKind.wrap_u8]; omega
        have hmm : m = 0 ∨ m = 1 ∨ m = 2 ∨ m = 3 ∨ m = 4 ∨ m = 5 ∨ m = 6 ∨ m = 7 := by omega
        have hWl := HB.out.2.2.1
        have hWB := HB.out.2.2.2.1
        have hs := c.keepB HB.out.2.2.2.2.1 qa
        have hd : StT 43 wc hi1 hi2 (.pointer (some ⟨bd, 0, none⟩)) W T := by
          have h0 := HB.out.2.2.2.2.2.1
          obtain ⟨b', o', c', e', h'⟩ := h0
          exact ⟨b', o', c', e', h'.keepB qa⟩
        have q := HB.out.2.2.2.2.2.2.trans qa
        have hdt : hi2 ≤ wc.heap.size := by obtain ⟨_, _, _, _, h'⟩ := hd; exact h'.top
        have hil := HB.out.2.1
        have h40' : an ≤ 40 := by omega
        have hst := c.top hs
        clear hm ob qa qc
        go_upto_block 2 with fail
        go_cut [89] (fun _ wx => ∃ (W' : List Sp2) (T' : Sp2), W'.length = NW ∧ WB W' T' (21000000000 + 2000000000 * ((i : Int) + 1)) ∧ St wx lo1 hi1 (.pointer (some sa)) W' T' ∧ StT 43 wx hi1 hi2 (.pointer (some ⟨bd, 0, none⟩)) W' T' ∧ B w wx)
        case first =>
          rcases hmm with rfl | rfl | rfl | rfl | rfl | rfl | rfl | rfl
          · go_wp2_with fail
            refine (c.draw _ _ _ _ _ _ k v e _ hs hWB (by omega) kI vI eI (by omega)).mono ?_
            rintro e1 w5 ⟨rfl, hs5, g5⟩
            have hd5 := hd.on g5.size (fun i h1 h2 => g5.block i (by omega) (fun hb => by have := hb.2; omega))
            have q5 := g5.b q (fun i hi => by omega)
            have ht5 := c.top hs5
            have hdt5 : hi2 ≤ w5.heap.size := by have := g5.size; omega
            generalize hok : drawOk W k v e = okb at *
            go_wp2_with fail
            refine (r11draw_any _ _ _ _ _ _ k v e _ hd5 hWB (by omega) kI vI eI (by omega)).mono ?_
            rintro e1 w6 ⟨rfl, hd6, g6⟩
            have hs6 := c.on hs5 g6.size (fun b h1 h2 => g6.block b (by omega) (fun hb => by have := hb.1; omega))
            have q6 := g6.b q5 (fun i hi => by omega)
            have HC := Lib.hid (And.intro hs6 (And.intro hd6 q6))
            have hbb : (okb != okb) = false := by cases okb <;> rfl
            rw [hok]
            clear hs5 hd5 q5 g5 g6 hs6 hd6 q6 hok
            go_wp2_with fail
            go_meet
            case rel =>
              refine ⟨_, _, ?_, ?_, HC.out.1, HC.out.2.1, HC.out.2.2⟩
              · rw [drawW_len]; exact hWl
              · exact (hWB.draw k v e).more (by omega)
          · go_wp2_with fail
            refine (c.draw _ _ _ _ _ _ k v e _ hs hWB (by omega) kI vI eI (by omega)).mono ?_
            rintro e1 w5 ⟨rfl, hs5, g5⟩
            have hd5 := hd.on g5.size (fun i h1 h2 => g5.block i (by omega) (fun hb => by have := hb.2; omega))
            have q5 := g5.b q (fun i hi => by omega)
            have ht5 := c.top hs5
            have hdt5 : hi2 ≤ w5.heap.size := by have := g5.size; omega
            generalize hok : drawOk W k v e = okb at *
            go_wp2_with fail
            refine (r11draw_any _ _ _ _ _ _ k v e _ hd5 hWB (by omega) kI vI eI (by omega)).mono ?_
            rintro e1 w6 ⟨rfl, hd6, g6⟩
            have hs6 := c.on hs5 g6.size (fun b h1 h2 => g6.block b (by omega) (fun hb => by have := hb.1; omega))
            have q6 := g6.b q5 (fun i hi => by omega)
            have HC := Lib.hid (And.intro hs6 (And.intro hd6 q6))
            have hbb : (okb != okb) = false := by cases okb <;> rfl
            rw [hok]
            clear hs5 hd5 q5 g5 g6 hs6 hd6 q6 hok
            go_wp2_with fail
            go_meet
            case rel =>
              refine ⟨_, _, ?_, ?_, HC.out.1, HC.out.2.1, HC.out.2.2⟩
              · rw [drawW_len]; exact hWl
              · exact (hWB.draw k v e).more (by omega)
          · go_wp2_with fail
            refine (c.draw _ _ _ _ _ _ k v e _ hs hWB (by omega) kI vI eI (by omega)).mono ?_
            rintro e1 w5 ⟨rfl, hs5, g5⟩
            have hd5 := hd.on g5.size (fun i h1 h2 => g5.block i (by omega) (fun hb => by have := hb.2; omega))
            have q5 := g5.b q (fun i hi => by omega)
            have ht5 := c.top hs5
            have hdt5 : hi2 ≤ w5.heap.size := by have := g5.size; omega
            generalize hok : drawOk W k v e = okb at *
            go_wp2_with fail
            refine (r11draw_any _ _ _ _ _ _ k v e _ hd5 hWB (by omega) kI vI eI (by omega)).mono ?_
            rintro e1 w6 ⟨rfl, hd6, g6⟩
            have hs6 := c.on hs5 g6.size (fun b h1 h2 => g6.block b (by omega) (fun hb => by have := hb.1; omega))
            have q6 := g6.b q5 (fun i hi => by omega)
            have HC := Lib.hid (And.intro hs6 (And.intro hd6 q6))
            have hbb : (okb != okb) = false := by cases okb <;> rfl
            rw [hok]
            clear hs5 hd5 q5 g5 g6 hs6 hd6 q6 hok
            go_wp2_with fail
            go_meet
            case rel =>
              refine ⟨_, _, ?_, ?_, HC.out.1, HC.out.2.1, HC.out.2.2⟩
              · rw [drawW_len]; exact hWl
              · exact (hWB.draw k v e).more (by omega)
          · go_wp2_with fail
            refine (c.draw _ _ _ _ _ _ k v e _ hs hWB (by omega) kI vI eI (by omega)).mono ?_
            rintro e1 w5 ⟨rfl, hs5, g5⟩
            have hd5 := hd.on g5.size (fun i h1 h2 => g5.block i (by omega) (fun hb => by have := hb.2; omega))
            have q5 := g5.b q (fun i hi => by omega)
            have ht5 := c.top hs5
            have hdt5 : hi2 ≤ w5.heap.size := by have := g5.size; omega
            generalize hok : drawOk W k v e = okb at *
            go_wp2_with fail
            refine (r11draw_any _ _ _ _ _ _ k v e _ hd5 hWB (by omega) kI vI eI (by omega)).mono ?_
            rintro e1 w6 ⟨rfl, hd6, g6⟩
            have hs6 := c.on hs5 g6.size (fun b h1 h2 => g6.block b (by omega) (fun hb => by have := hb.1; omega))
            have q6 := g6.b q5 (fun i hi => by omega)
            have HC := Lib.hid (And.intro hs6 (And.intro hd6 q6))
            have hbb : (okb != okb) = false := by cases okb <;> rfl
            rw [hok]
            clear hs5 hd5 q5 g5 g6 hs6 hd6 q6 hok
            go_wp2_with fail
            go_meet
            case rel =>
              refine ⟨_, _, ?_, ?_, HC.out.1, HC.out.2.1, HC.out.2.2⟩
              · rw [drawW_len]; exact hWl
              · exact (hWB.draw k v e).more (by omega)
          · go_wp2_with fail
            refine (c.give _ _ _ _ _ _ k _ hs hWB (by omega) kI (by omega)).mono ?_
            rintro e1 w5 ⟨rfl, hs5, g5⟩
            have hd5 := hd.on g5.size (fun i h1 h2 => g5.block i (by omega) (fun hb => by have := hb.2; omega))
            have q5 := g5.b q (fun i hi => by omega)
            have ht5 := c.top hs5
            have hdt5 : hi2 ≤ w5.heap.size := by have := g5.size; omega
            generalize hok : hasS W k = okb at *
            go_wp2_with fail
            refine (r11give_any _ _ _ _ _ _ k _ hd5 hWB (by omega) kI (by omega)).mono ?_
            rintro e1 w6 ⟨rfl, hd6, g6⟩
            have hs6 := c.on hs5 g6.size (fun b h1 h2 => g6.block b (by omega) (fun hb => by have := hb.1; omega))
            have q6 := g6.b q5 (fun i hi => by omega)
            have HC := Lib.hid (And.intro hs6 (And.intro hd6 q6))
            have hbb : (okb != okb) = false := by cases okb <;> rfl
            rw [hok]
            clear hs5 hd5 q5 g5 g6 hs6 hd6 q6 hok
            go_wp2_with fail
            go_meet
            case rel =>
              refine ⟨_, _, ?_, ?_, HC.out.1, HC.out.2.1, HC.out.2.2⟩
              · rw [giveW_len]; exact hWl
              · exact (hWB.give k).more (by omega)
          · go_wp2_with fail
            refine (c.give _ _ _ _ _ _ k _ hs hWB (by omega) kI (by omega)).mono ?_
            rintro e1 w5 ⟨rfl, hs5, g5⟩
            have hd5 := hd.on g5.size (fun i h1 h2 => g5.block i (by omega) (fun hb => by have := hb.2; omega))
            have q5 := g5.b q (fun i hi => by omega)
            have ht5 := c.top hs5
            have hdt5 : hi2 ≤ w5.heap.size := by have := g5.size; omega
            generalize hok : hasS W k = okb at *
            go_wp2_with fail
            refine (r11give_any _ _ _ _ _ _ k _ hd5 hWB (by omega) kI (by omega)).mono ?_
            rintro e1 w6 ⟨rfl, hd6, g6⟩
            have hs6 := c.on hs5 g6.size (fun b h1 h2 => g6.block b (by omega) (fun hb => by have := hb.1; omega))
            have q6 := g6.b q5 (fun i hi => by omega)
            have HC := Lib.hid (And.intro hs6 (And.intro hd6 q6))
            have hbb : (okb != okb) = false := by cases okb <;> rfl
            rw [hok]
            clear hs5 hd5 q5 g5 g6 hs6 hd6 q6 hok
            go_wp2_with fail
            go_meet
            case rel =>
              refine ⟨_, _, ?_, ?_, HC.out.1, HC.out.2.1, HC.out.2.2⟩
              · rw [giveW_len]; exact hWl
              · exact (hWB.give k).more (by omega)
          · go_wp2_with fail
            go_meet
            case rel => exact ⟨W, T, hWl, hWB.more (by omega), hs, hd, q⟩
          · go_wp2_with fail
            go_meet
            case rel => exact ⟨W, T, hWl, hWB.more (by omega), hs, hd, q⟩
        case rest =>
          obtain ⟨W1, T1, hWl1, hWB1, hs1, hd1, q1⟩ := hcut
          have hlen1 : W1.length ≤ 1000000 := by omega
          clear hs hd q hWB hWl hst hdt HB hmm tm wm a0 a1 a2 a3 hbx
          have cA := fun (w : World) (h : St w lo1 hi1 (.pointer (some sa)) W1 T1) => c.at_ w lo1 hi1 _ W1 T1 k h kI hlen1
          have cD := fun (w : World) (h : St w lo1 hi1 (.pointer (some sa)) W1 T1) => d.drop w lo1 hi1 _ W1 T1 h
          obtain ⟨b9, od, cd, e9, hA⟩ := hd1
          obtain rfl : bd = b9 := by simpa using e9
          clear e9
          obtain ⟨t0, t1⟩ := T1
          simp only at cD
          have wi1 : IntKind.i64.wrap ((i : Int) + 1) = (i : Int) + 1 := wrapI (by omega) (by omega)
          by_cases hsk : hasS W1 k = true
          · obtain ⟨k0, klt, hgk⟩ := hasS_ix hsk
            rw [hsk, show atS W1 k = getS W1 k by unfold atS; rw [if_pos hsk]] at cA
            obtain ⟨kn, hkn⟩ : ∃ kn : Nat, k = (kn : Int) := ⟨k.toNat, by omega⟩
            subst hkn
            rw [show ((kn : Int)).toNat = kn by omega] at hgk klt
            generalize getS W1 (kn : Int) = Y at *
            obtain ⟨y0, y1⟩ := Y
            simp only at cA
            have hk0B : decide ((0 : Int) ≤ (kn : Int)) = true := decide_eq_true (by omega)
            have hkNB : decide ((kn : Int) < (NW : Int)) = true := decide_eq_true (by omega)
            have hkNN : decide (kn < NW) = true := decide_eq_true (by omega)
            have hkI : (kn : Int) < (NW : Int) := by omega
            have j0 := obj_cell hA.obj 0
            rw [hWl1] at j0
            go_wp2_with fail
            refine (cA _ hs1).mono ?_
            rintro e1 w6 ⟨rfl, q9⟩
            replace hs1 := c.keepB hs1 q9
            replace hA := hA.keepB q9
            replace q1 := q1.trans q9
            have j0 := obj_cell hA.obj 0
            rw [hWl1] at j0
            have hbd9 := obj_lt hA.obj
            clear q9 cA
            go_wp2_with fail
            have qx : B w6 (w6.alloc (.cells #[.int .i64 y0, .int .i64 y1] 38)) := (B.refl _).alloc _ _
            have ob3 := obj_new w6 (.cells #[.int .i64 y0, .int .i64 y1] 38)
            replace hs1 := c.keepB hs1 qx
            replace hA := hA.keepB qx
            replace q1 := q1.trans qx
            generalize w6.alloc (.cells #[.int .i64 y0, .int .i64 y1] 38) = w7 at *
            generalize w6.heap.size = b23 at *
            clear qx
            have r0 := obj_cell ob3 0
            have r1 := obj_cell ob3 1
            have r2 := obj_cell hA.obj 0
            have r3 := obj_cell hA.obj 1
            have r4 := obj_cell hA.obj 2
            rw [hWl1] at r2
            obtain ⟨gr, rfl, _, _, _, r5, r6, _, _⟩ := hA.at_ hgk
            have HZ := Lib.hid (And.intro hWl1 (And.intro hWB1 (And.intro hA q1)))
            clear hWB1 hA q1 ob3 hWl1 hgk
            obtain ⟨bz, hbz⟩ : ∃ z, (decide (t0 = 0) && decide (t1 = 0)) = z := ⟨_, rfl⟩
            rw [hbz] at cD
            have HBZ := Lib.hid hbz
            have hz4 : (bz != bz) = false := by cases bz <;> rfl
            clear hbz
            all_goals
              refine wp_region_noPanic ?_
              refine wp_region_seq (S := fun w' => w'.cell? ⟨b23, 0, none⟩ = some (.int .i64 y0) ∧ w'.cell? ⟨b23, 1, none⟩ = some (.int .i64 y1) ∧ w'.cell? ⟨bd, 0, none⟩ = some (.slice (some ⟨gr, 0, none⟩) NW cd) ∧ w'.cell? ⟨bd, 1, none⟩ = some (.int .i64 t0) ∧ w'.cell? ⟨bd, 2, none⟩ = some (.int .i64 t1) ∧ w'.cell? ⟨gr, kn * 2, none⟩ = some (.int .i64 y0) ∧ w'.cell? ⟨gr, kn * 2 + 1, none⟩ = some (.int .i64 y1) ∧ St w' lo1 hi1 (.pointer (some sa)) W1 (t0, t1) ∧ B w7 w') [(0, 0), (1, 0), (2, 0), (3, 0), (4, 0), (5, 0), (6, 0), (7, 0), (8, 0), (9, 0), (10, 0), (11, 0), (12, 0), (13, 0), (14, 0), (15, 0), (16, 0), (17, 0), (18, 0), (19, 0), (20, 0), (21, 1), (22, 1), (23, 1), (24, 0), (25, 0), (26, 0), (27, 0), (29, 0), (30, 0), (31, 0), (32, 0), (28, 2), (33, 0), (34, 0), (35, 0), (36, 0), (38, 0), (39, 0), (40, 0), (41, 0), (42, 0), (43, 0), (37, 2), (44, 0), (45, 0)] [0, 0, 3, 4, 8, 24, 32, 32, 160, 288, 544, 32, 3104, 4128, 8288, 16424, 32776, 65568, 131072, 393216, 655360, 1048576, 1048576, 7340032, 9568256, 16908288, 34603008, 67108864, 201326592, 67108864, 603979776, 1140850688, 2214592512, 4630511616, 8657043456, 17448304640, 34359738368, 103079215104, 34359738368, 309237645312, 584115552256, 1133871366144, 34359738368, 6631429505024, 8967891714048, 17626545782784] [0, 0, 3, 4, 8, 24, 32, 32, 160, 288, 544, 32, 3104, 4128, 8288, 16424, 32776, 65536, 131072, 393216, 655360, 1048576, 1048576, 7340032, 9568256, 16908288, 33554432, 67108864, 201326592, 67108864, 603979776, 1140850688, 2214592512, 4630511616, 8657043456, 17179869184, 34359738368, 103079215104, 34359738368, 309237645312, 584115552256, 1133871366144, 34359738368, 6631429505024, 8967891714048, 17626545782784] (by kernel_rfl) (by kernel_rfl) (fun _ _ _ _ _ h => h) ?_ (fun hH => ?_)
              · exact ⟨(B.refl w7).drew.keep r0, (B.refl w7).drew.keep r1, (B.refl w7).drew.keep r2, (B.refl w7).drew.keep r3, (B.refl w7).drew.keep r4, (B.refl w7).drew.keep r5, (B.refl w7).drew.keep r6, c.keepB hs1 (B.refl w7).drew, (B.refl w7).drew⟩
              refine wpSeq_take (d := 132) (v := ?_) rfl rfl (by kernel_rfl) (fun w hS => ?_) ?_
              rotate_left
              · go_simp <;> with_reducible rfl
              dsimp only [List.set_cons_zero, List.set_cons_succ]
              refine wpSeq_take (d := 133) (v := ?_) rfl rfl (by kernel_rfl) (fun w hS => ?_) ?_
              rotate_left
              · go_simp <;> with_reducible rfl
              dsimp only [List.set_cons_zero, List.set_cons_succ]
              refine wpSeq_take (d := 134) (v := ?_) rfl rfl (by kernel_rfl) (fun w hS => ?_) ?_
              rotate_left
              · go_simp <;> with_reducible rfl
              dsimp only [List.set_cons_zero, List.set_cons_succ]
              refine wpSeq_take (d := 135) (v := ?_) rfl rfl (by kernel_rfl) (fun w hS => ?_) ?_
              rotate_left
              · go_simp <;> with_reducible rfl
              dsimp only [List.set_cons_zero, List.set_cons_succ]
              refine wpSeq_take (d := 136) (v := ?_) rfl rfl (by kernel_rfl) (fun w hS => ?_) ?_
              rotate_left
              · go_simp <;> with_reducible rfl
              dsimp only [List.set_cons_zero, List.set_cons_succ]
              refine wpSeq_take (d := 137) (v := ?_) rfl rfl (by kernel_rfl) (fun w hS => ?_) ?_
              rotate_left
              · go_simp <;> with_reducible rfl
              dsimp only [List.set_cons_zero, List.set_cons_succ]
              refine wpSeq_take (d := 138) (v := ?_) rfl rfl (by kernel_rfl) (fun w hS => ?_) ?_
              rotate_left
              · go_simp <;> with_reducible rfl
              dsimp only [List.set_cons_zero, List.set_cons_succ]
              refine wpSeq_take (d := 139) (v := ?_) rfl rfl (by kernel_rfl) (fun w hS => ?_) ?_
              rotate_left
              · go_simp <;> with_reducible rfl
              dsimp only [List.set_cons_zero, List.set_cons_succ]
              refine wpSeq_take (d := 140) (v := ?_) rfl rfl (by kernel_rfl) (fun w hS => ?_) ?_
              rotate_left
              · go_simp <;> with_reducible rfl
              dsimp only [List.set_cons_zero, List.set_cons_succ]
              refine wpSeq_take (d := 141) (v := ?_) rfl rfl (by kernel_rfl) (fun w hS => ?_) ?_
              rotate_left
              · go_simp <;> with_reducible rfl
              dsimp only [List.set_cons_zero, List.set_cons_succ]
              refine wpSeq_take (d := 142) (v := ?_) rfl rfl (by kernel_rfl) (fun w hS => ?_) ?_
              rotate_left
              · go_simp <;> with_reducible rfl
              dsimp only [List.set_cons_zero, List.set_cons_succ]
              refine wpSeq_take (d := 143) (v := ?_) rfl rfl (by kernel_rfl) (fun w hS => ?_) ?_
              rotate_left
              · go_simp <;> with_reducible rfl
              dsimp only [List.set_cons_zero, List.set_cons_succ]
              refine wpSeq_take (d := 144) (v := ?_) rfl rfl (by kernel_rfl) (fun w hS => ?_) ?_
              rotate_left
              · go_simp <;> with_reducible rfl
              dsimp only [List.set_cons_zero, List.set_cons_succ]
              refine wpSeq_take (d := 145) (v := ?_) rfl rfl (by kernel_rfl) (fun w hS => ?_) ?_
              rotate_left
              · go_simp <;> with_reducible rfl
              dsimp only [List.set_cons_zero, List.set_cons_succ]
              refine wpSeq_take (d := 146) (v := ?_) rfl rfl (by kernel_rfl) (fun w hS => ?_) ?_
              rotate_left
              · go_simp <;> with_reducible rfl
              dsimp only [List.set_cons_zero, List.set_cons_succ]
              refine wpSeq_take (d := 147) (v := ?_) rfl rfl (by kernel_rfl) (fun w hS => ?_) ?_
              rotate_left
              · go_simp <;> with_reducible rfl
              dsimp only [List.set_cons_zero, List.set_cons_succ]
              refine wpSeq_take (d := 148) (v := ?_) rfl rfl (by kernel_rfl) (fun w hS => ?_) ?_
              rotate_left
              · go_simp <;> with_reducible rfl
              dsimp only [List.set_cons_zero, List.set_cons_succ]
              refine wpSeq_take (d := 149) (v := ?_) rfl rfl (by kernel_rfl) (fun w hS => ?_) ?_
              rotate_left
              · go_simp <;> with_reducible rfl
              dsimp only [List.set_cons_zero, List.set_cons_succ]
              refine wpSeq_take (d := 150) (v := ?_) rfl rfl (by kernel_rfl) (fun w hS => ?_) ?_
              rotate_left
              · go_simp <;> with_reducible rfl
              dsimp only [List.set_cons_zero, List.set_cons_succ]
              refine wpSeq_take (d := 151) (v := ?_) rfl rfl (by kernel_rfl) (fun w hS => ?_) ?_
              rotate_left
              · go_simp <;> with_reducible rfl
              dsimp only [List.set_cons_zero, List.set_cons_succ]
              refine wpSeq_take (d := 152) (v := ?_) rfl rfl (by kernel_rfl) (fun w hS => ?_) ?_
              rotate_left
              · go_simp <;> with_reducible rfl
              dsimp only [List.set_cons_zero, List.set_cons_succ]
              refine wpSeq_pass (d := 153) rfl rfl (by kernel_rfl) ?_
              dsimp only [List.set_cons_zero, List.set_cons_succ]
              refine wpSeq_pass (d := 154) rfl rfl (by kernel_rfl) ?_
              dsimp only [List.set_cons_zero, List.set_cons_succ]
              refine wpSeq_pass (d := 155) rfl rfl (by kernel_rfl) ?_
              dsimp only [List.set_cons_zero, List.set_cons_succ]
              refine wpSeq_take (d := 156) (v := ?_) rfl rfl (by kernel_rfl) (fun w hS => ?_) ?_
              rotate_left
              · go_simp <;> with_reducible rfl
              dsimp only [List.set_cons_zero, List.set_cons_succ]
              refine wpSeq_take (d := 157) (v := ?_) rfl rfl (by kernel_rfl) (fun w hS => ?_) ?_
              rotate_left
              · go_simp <;> with_reducible rfl
              dsimp only [List.set_cons_zero, List.set_cons_succ]
              refine wpSeq_take (d := 158) (v := ?_) rfl rfl (by kernel_rfl) (fun w hS => ?_) ?_
              rotate_left
              · go_simp <;> with_reducible rfl
              dsimp only [List.set_cons_zero, List.set_cons_succ]
              refine wpSeq_take (d := 159) (v := ?_) rfl rfl (by kernel_rfl) (fun w hS => ?_) ?_
              rotate_left
              · go_simp <;> with_reducible rfl
              dsimp only [List.set_cons_zero, List.set_cons_succ]
              refine wpSeq_take (d := 161) (v := ?_) rfl rfl (by kernel_rfl) (fun w hS => ?_) ?_
              rotate_left
              · go_simp <;> with_reducible rfl
              dsimp only [List.set_cons_zero, List.set_cons_succ]
              refine wpSeq_take (d := 162) (v := ?_) rfl rfl (by kernel_rfl) (fun w hS => ?_) ?_
              rotate_left
              · go_simp <;> with_reducible rfl
              dsimp only [List.set_cons_zero, List.set_cons_succ]
              refine wpSeq_take (d := 163) (v := ?_) rfl rfl (by kernel_rfl) (fun w hS => ?_) ?_
              rotate_left
              · go_simp <;> with_reducible rfl
              dsimp only [List.set_cons_zero, List.set_cons_succ]
              refine wpSeq_take (d := 164) (v := ?_) rfl rfl (by kernel_rfl) (fun w hS => ?_) ?_
              rotate_left
              · go_simp <;> with_reducible rfl
              dsimp only [List.set_cons_zero, List.set_cons_succ]
              refine wpSeq_call rfl (by kernel_rfl) (fun K hK => ?_)
              go_simp
              (with_reducible refine (c.tip _ _ _ _ _ _ hH.2.2.2.2.2.2.2.1).mono ?_)
              rintro e w' ⟨rfl, hq⟩
              refine hK.out _ _ ?_ (fun hH => ?_)
              · exact ⟨hq.keep hH.1, hq.keep hH.2.1, hq.keep hH.2.2.1, hq.keep hH.2.2.2.1, hq.keep hH.2.2.2.2.1, hq.keep hH.2.2.2.2.2.1, hq.keep hH.2.2.2.2.2.2.1, c.keepB hH.2.2.2.2.2.2.2.1 hq, hH.2.2.2.2.2.2.2.2.trans hq⟩
              clear hK
              refine wpSeq_take (d := 165) (v := ?_) rfl rfl (by kernel_rfl) (fun w hS => ?_) ?_
              rotate_left
              · go_simp <;> with_reducible rfl
              dsimp only [List.set_cons_zero, List.set_cons_succ]
              refine wpSeq_take (d := 166) (v := ?_) rfl rfl (by kernel_rfl) (fun w hS => ?_) ?_
              rotate_left
              · go_simp <;> with_reducible rfl
              dsimp only [List.set_cons_zero, List.set_cons_succ]
              refine wpSeq_take (d := 167) (v := ?_) rfl rfl (by kernel_rfl) (fun w hS => ?_) ?_
              rotate_left
              · go_simp <;> with_reducible rfl
              dsimp only [List.set_cons_zero, List.set_cons_succ]
              refine wpSeq_take (d := 168) (v := ?_) rfl rfl (by kernel_rfl) (fun w hS => ?_) ?_
              rotate_left
              · go_simp <;> with_reducible rfl
              dsimp only [List.set_cons_zero, List.set_cons_succ]
              refine wpSeq_take (d := 170) (v := ?_) rfl rfl (by kernel_rfl) (fun w hS => ?_) ?_
              rotate_left
              · go_simp <;> with_reducible rfl
              dsimp only [List.set_cons_zero, List.set_cons_succ]
              refine wpSeq_take (d := 171) (v := ?_) rfl rfl (by kernel_rfl) (fun w hS => ?_) ?_
              rotate_left
              · go_simp <;> with_reducible rfl
              dsimp only [List.set_cons_zero, List.set_cons_succ]
              refine wpSeq_take (d := 172) (v := ?_) rfl rfl (by kernel_rfl) (fun w hS => ?_) ?_
              rotate_left
              · go_simp <;> with_reducible rfl
              dsimp only [List.set_cons_zero, List.set_cons_succ]
              refine wpSeq_take (d := 173) (v := ?_) rfl rfl (by kernel_rfl) (fun w hS => ?_) ?_
              rotate_left
              · go_simp <;> with_reducible rfl
              dsimp only [List.set_cons_zero, List.set_cons_succ]
              refine wpSeq_take (d := 174) (v := ?_) rfl rfl (by kernel_rfl) (fun w hS => ?_) ?_
              rotate_left
              · go_simp <;> with_reducible rfl
              dsimp only [List.set_cons_zero, List.set_cons_succ]
              refine wpSeq_take (d := 175) (v := .bool bz) rfl rfl (by kernel_rfl) (fun w hS => ?_) ?_
              · rw [← HBZ.out]; go_simp; by_cases h1 : t0 = 0 <;> by_cases h2 : t1 = 0 <;> simp [h1, h2]
              dsimp only [List.set_cons_zero, List.set_cons_succ]
              refine wpSeq_call rfl (by kernel_rfl) (fun K hK => ?_)
              go_simp
              (with_reducible refine (cD _ hH.2.2.2.2.2.2.2.1).mono ?_)
              rintro e w' ⟨rfl, hq⟩
              refine hK.out _ _ ?_ (fun hH => ?_)
              · exact ⟨hq.keep hH.1, hq.keep hH.2.1, hq.keep hH.2.2.1, hq.keep hH.2.2.2.1, hq.keep hH.2.2.2.2.1, hq.keep hH.2.2.2.2.2.1, hq.keep hH.2.2.2.2.2.2.1, c.keepB hH.2.2.2.2.2.2.2.1 hq, hH.2.2.2.2.2.2.2.2.trans hq⟩
              clear hK
              refine wpSeq_take (d := 176) (v := ?_) rfl rfl (by kernel_rfl) (fun w hS => ?_) ?_
              rotate_left
              · go_simp <;> with_reducible rfl
              dsimp only [List.set_cons_zero, List.set_cons_succ]
              refine wpSeq_take (d := 177) (v := ?_) rfl rfl (by kernel_rfl) (fun w hS => ?_) ?_
              rotate_left
              · go_simp <;> with_reducible rfl
              dsimp only [List.set_cons_zero, List.set_cons_succ]
              refine wpSeq_done ?_
              refine NoPanic.normal ?_
              have HH := Lib.hid hH
              clear r0 r1 r2 r3 r4 r5 r6 hH
              go_wp2
              go_roundw
              case rel => exact ⟨i + 1, W1, (t0, t1), by omega, by go_num, HZ.out.1, by rw [show ((i + 1 : Nat) : Int) = (i : Int) + 1 by omega]; exact HZ.out.2.1, HH.out.2.2.2.2.2.2.2.1, ⟨_, _, _, rfl, HZ.out.2.2.1.keepB HH.out.2.2.2.2.2.2.2.2⟩, HZ.out.2.2.2.trans HH.out.2.2.2.2.2.2.2.2⟩
              case measure => simp [intOf]; omega
          · have hsf : hasS W1 k = false := by simpa using hsk
            rw [hsf, show atS W1 k = (0, 0) by unfold atS; rw [if_neg hsk]] at cA
            simp only at cA
            have hsn : ¬ (0 ≤ k ∧ k < (NW : Int)) := fun hc => hsk (by unfold hasS; simp only [Bool.and_eq_true, decide_eq_true_eq]; omega)
            clear hsf hsk
            have j0 := obj_cell hA.obj 0
            rw [hWl1] at j0
            obtain ⟨p1, hp1⟩ : ∃ z, decide (0 ≤ k) = z := ⟨_, rfl⟩
            obtain ⟨p2, hp2⟩ : ∃ z, decide (k < (NW : Int)) = z := ⟨_, rfl⟩
            have hpp : (p1 && p2) = false := by rw [← hp1, ← hp2]; cases h : decide (0 ≤ k) <;> cases h' : decide (k < (NW : Int)) <;> simp at h h' ⊢; omega
            clear hsn
            have hpc : p1 = false ∨ (p1 = true ∧ p2 = false) := by cases p1 <;> cases p2 <;> simp at hpp ⊢
            go_wp2_with fail
            refine (cA _ hs1).mono ?_
            rintro e1 w6 ⟨rfl, q9⟩
            replace hs1 := c.keepB hs1 q9
            replace hA := hA.keepB q9
            replace q1 := q1.trans q9
            have j0 := obj_cell hA.obj 0
            rw [hWl1] at j0
            have hbd9 := obj_lt hA.obj
            clear q9 cA
            rcases hpc with rfl | ⟨rfl, rfl⟩
            · go_wp2_with fail
              have qx : B w6 (w6.alloc (.cells #[.int .i64 0, .int .i64 0] 38)) := (B.refl _).alloc _ _
              have ob3 := obj_new w6 (.cells #[.int .i64 0, .int .i64 0] 38)
              replace hs1 := c.keepB hs1 qx
              replace hA := hA.keepB qx
              replace q1 := q1.trans qx
              generalize w6.alloc (.cells #[.int .i64 0, .int .i64 0] 38) = w7 at *
              generalize w6.heap.size = b23 at *
              clear qx
              have r0 := obj_cell ob3 0
              have r1 := obj_cell ob3 1
              have r2 := obj_cell hA.obj 0
              have r3 := obj_cell hA.obj 1
              have r4 := obj_cell hA.obj 2
              rw [hWl1] at r2
              have HZ := Lib.hid (And.intro hWl1 (And.intro hWB1 (And.intro hA q1)))
              clear hWB1 hA q1 ob3 hWl1
              obtain ⟨bz, hbz⟩ : ∃ z, (decide (t0 = 0) && decide (t1 = 0)) = z := ⟨_, rfl⟩
              rw [hbz] at cD
              have HBZ := Lib.hid hbz
              have hz4 : (bz != bz) = false := by cases bz <;> rfl
              clear hbz
              all_goals
                refine wp_region_noPanic ?_
                refine wp_region_seq (S := fun w' => w'.cell? ⟨b23, 0, none⟩ = some (.int .i64 0) ∧ w'.cell? ⟨b23, 1, none⟩ = some (.int .i64 0) ∧ w'.cell? ⟨bd, 0, none⟩ = some (.slice od NW cd) ∧ w'.cell? ⟨bd, 1, none⟩ = some (.int .i64 t0) ∧ w'.cell? ⟨bd, 2, none⟩ = some (.int .i64 t1) ∧ St w' lo1 hi1 (.pointer (some sa)) W1 (t0, t1) ∧ B w7 w') [(0, 0), (1, 0), (2, 0), (3, 0), (4, 0), (5, 0), (6, 1), (7, 1), (8, 1), (9, 1), (10, 1), (11, 1), (12, 1), (13, 1), (14, 1), (15, 0), (16, 0), (17, 0), (18, 0), (19, 0), (20, 0), (21, 0), (22, 0), (23, 0), (24, 0), (25, 0), (26, 0), (27, 0), (29, 0), (30, 0), (31, 0), (32, 0), (28, 2), (33, 0), (34, 0), (35, 0), (36, 0), (38, 0), (39, 0), (40, 0), (41, 0), (42, 0), (43, 0), (37, 2), (44, 0), (45, 0)] [0, 0, 3, 4, 8, 24, 32, 32, 160, 288, 544, 32, 3104, 4128, 8288, 16424, 32776, 65568, 131072, 393216, 655360, 1048576, 1048576, 7340032, 9568256, 16908288, 34603008, 67108864, 201326592, 67108864, 603979776, 1140850688, 2214592512, 4630511616, 8657043456, 17448304640, 34359738368, 103079215104, 34359738368, 309237645312, 584115552256, 1133871366144, 34359738368, 6631429505024, 8967891714048, 17626545782784] [0, 0, 3, 4, 8, 24, 32, 32, 160, 288, 544, 32, 3104, 4128, 8288, 16424, 32776, 65536, 131072, 393216, 655360, 1048576, 1048576, 7340032, 9568256, 16908288, 33554432, 67108864, 201326592, 67108864, 603979776, 1140850688, 2214592512, 4630511616, 8657043456, 17179869184, 34359738368, 103079215104, 34359738368, 309237645312, 584115552256, 1133871366144, 34359738368, 6631429505024, 8967891714048, 17626545782784] (by kernel_rfl) (by kernel_rfl) (fun _ _ _ _ _ h => h) ?_ (fun hH => ?_)
                · exact ⟨(B.refl w7).drew.keep r0, (B.refl w7).drew.keep r1, (B.refl w7).drew.keep r2, (B.refl w7).drew.keep r3, (B.refl w7).drew.keep r4, c.keepB hs1 (B.refl w7).drew, (B.refl w7).drew⟩
                refine wpSeq_take (d := 132) (v := ?_) rfl rfl (by kernel_rfl) (fun w hS => ?_) ?_
                rotate_left
                · go_simp <;> with_reducible rfl
                dsimp only [List.set_cons_zero, List.set_cons_succ]
                refine wpSeq_take (d := 133) (v := ?_) rfl rfl (by kernel_rfl) (fun w hS => ?_) ?_
                rotate_left
                · go_simp <;> with_reducible rfl
                dsimp only [List.set_cons_zero, List.set_cons_succ]
                refine wpSeq_take (d := 134) (v := ?_) rfl rfl (by kernel_rfl) (fun w hS => ?_) ?_
                rotate_left
                · go_simp <;> with_reducible rfl
                dsimp only [List.set_cons_zero, List.set_cons_succ]
                refine wpSeq_take (d := 135) (v := ?_) rfl rfl (by kernel_rfl) (fun w hS => ?_) ?_
                rotate_left
                · go_simp <;> with_reducible rfl
                dsimp only [List.set_cons_zero, List.set_cons_succ]
                refine wpSeq_take (d := 136) (v := ?_) rfl rfl (by kernel_rfl) (fun w hS => ?_) ?_
                rotate_left
                · go_simp <;> with_reducible rfl
                dsimp only [List.set_cons_zero, List.set_cons_succ]
                refine wpSeq_take (d := 137) (v := ?_) rfl rfl (by kernel_rfl) (fun w hS => ?_) ?_
                rotate_left
                · go_simp <;> with_reducible rfl
                dsimp only [List.set_cons_zero, List.set_cons_succ]
                refine wpSeq_pass (d := 138) rfl rfl (by kernel_rfl) ?_
                dsimp only [List.set_cons_zero, List.set_cons_succ]
                refine wpSeq_pass (d := 139) rfl rfl (by kernel_rfl) ?_
                dsimp only [List.set_cons_zero, List.set_cons_succ]
                refine wpSeq_pass (d := 140) rfl rfl (by kernel_rfl) ?_
                dsimp only [List.set_cons_zero, List.set_cons_succ]
                refine wpSeq_pass (d := 141) rfl rfl (by kernel_rfl) ?_
                dsimp only [List.set_cons_zero, List.set_cons_succ]
                refine wpSeq_pass (d := 142) rfl rfl (by kernel_rfl) ?_
                dsimp only [List.set_cons_zero, List.set_cons_succ]
                refine wpSeq_pass (d := 143) rfl rfl (by kernel_rfl) ?_
                dsimp only [List.set_cons_zero, List.set_cons_succ]
                refine wpSeq_pass (d := 144) rfl rfl (by kernel_rfl) ?_
                dsimp only [List.set_cons_zero, List.set_cons_succ]
                refine wpSeq_pass (d := 145) rfl rfl (by kernel_rfl) ?_
                dsimp only [List.set_cons_zero, List.set_cons_succ]
                refine wpSeq_pass (d := 146) rfl rfl (by kernel_rfl) ?_
                dsimp only [List.set_cons_zero, List.set_cons_succ]
                refine wpSeq_take (d := 147) (v := ?_) rfl rfl (by kernel_rfl) (fun w hS => ?_) ?_
                rotate_left
                · go_simp <;> with_reducible rfl
                dsimp only [List.set_cons_zero, List.set_cons_succ]
                refine wpSeq_take (d := 148) (v := ?_) rfl rfl (by kernel_rfl) (fun w hS => ?_) ?_
                rotate_left
                · go_simp <;> with_reducible rfl
                dsimp only [List.set_cons_zero, List.set_cons_succ]
                refine wpSeq_take (d := 149) (v := ?_) rfl rfl (by kernel_rfl) (fun w hS => ?_) ?_
                rotate_left
                · go_simp <;> with_reducible rfl
                dsimp only [List.set_cons_zero, List.set_cons_succ]
                refine wpSeq_take (d := 150) (v := ?_) rfl rfl (by kernel_rfl) (fun w hS => ?_) ?_
                rotate_left
                · go_simp <;> with_reducible rfl
                dsimp only [List.set_cons_zero, List.set_cons_succ]
                refine wpSeq_take (d := 151) (v := ?_) rfl rfl (by kernel_rfl) (fun w hS => ?_) ?_
                rotate_left
                · go_simp <;> with_reducible rfl
                dsimp only [List.set_cons_zero, List.set_cons_succ]
                refine wpSeq_take (d := 152) (v := ?_) rfl rfl (by kernel_rfl) (fun w hS => ?_) ?_
                rotate_left
                · go_simp <;> with_reducible rfl
                dsimp only [List.set_cons_zero, List.set_cons_succ]
                refine wpSeq_take (d := 153) (v := ?_) rfl rfl (by kernel_rfl) (fun w hS => ?_) ?_
                rotate_left
                · go_simp <;> with_reducible rfl
                dsimp only [List.set_cons_zero, List.set_cons_succ]
                refine wpSeq_take (d := 154) (v := ?_) rfl rfl (by kernel_rfl) (fun w hS => ?_) ?_
                rotate_left
                · go_simp <;> with_reducible rfl
                dsimp only [List.set_cons_zero, List.set_cons_succ]
                refine wpSeq_take (d := 155) (v := ?_) rfl rfl (by kernel_rfl) (fun w hS => ?_) ?_
                rotate_left
                · go_simp <;> with_reducible rfl
                dsimp only [List.set_cons_zero, List.set_cons_succ]
                refine wpSeq_take (d := 156) (v := ?_) rfl rfl (by kernel_rfl) (fun w hS => ?_) ?_
                rotate_left
                · go_simp <;> with_reducible rfl
                dsimp only [List.set_cons_zero, List.set_cons_succ]
                refine wpSeq_take (d := 157) (v := ?_) rfl rfl (by kernel_rfl) (fun w hS => ?_) ?_
                rotate_left
                · go_simp <;> with_reducible rfl
                dsimp only [List.set_cons_zero, List.set_cons_succ]
                refine wpSeq_take (d := 158) (v := ?_) rfl rfl (by kernel_rfl) (fun w hS => ?_) ?_
                rotate_left
                · go_simp <;> with_reducible rfl
                dsimp only [List.set_cons_zero, List.set_cons_succ]
                refine wpSeq_take (d := 159) (v := ?_) rfl rfl (by kernel_rfl) (fun w hS => ?_) ?_
                rotate_left
                · go_simp <;> with_reducible rfl
                dsimp only [List.set_cons_zero, List.set_cons_succ]
                refine wpSeq_take (d := 161) (v := ?_) rfl rfl (by kernel_rfl) (fun w hS => ?_) ?_
                rotate_left
                · go_simp <;> with_reducible rfl
                dsimp only [List.set_cons_zero, List.set_cons_succ]
                refine wpSeq_take (d := 162) (v := ?_) rfl rfl (by kernel_rfl) (fun w hS => ?_) ?_
                rotate_left
                · go_simp <;> with_reducible rfl
                dsimp only [List.set_cons_zero, List.set_cons_succ]
                refine wpSeq_take (d := 163) (v := ?_) rfl rfl (by kernel_rfl) (fun w hS => ?_) ?_
                rotate_left
                · go_simp <;> with_reducible rfl
                dsimp only [List.set_cons_zero, List.set_cons_succ]
                refine wpSeq_take (d := 164) (v := ?_) rfl rfl (by kernel_rfl) (fun w hS => ?_) ?_
                rotate_left
                · go_simp <;> with_reducible rfl
                dsimp only [List.set_cons_zero, List.set_cons_succ]
                refine wpSeq_call rfl (by kernel_rfl) (fun K hK => ?_)
                go_simp
                (with_reducible refine (c.tip _ _ _ _ _ _ hH.2.2.2.2.2.1).mono ?_)
                rintro e w' ⟨rfl, hq⟩
                refine hK.out _ _ ?_ (fun hH => ?_)
                · exact ⟨hq.keep hH.1, hq.keep hH.2.1, hq.keep hH.2.2.1, hq.keep hH.2.2.2.1, hq.keep hH.2.2.2.2.1, c.keepB hH.2.2.2.2.2.1 hq, hH.2.2.2.2.2.2.trans hq⟩
                clear hK
                refine wpSeq_take (d := 165) (v := ?_) rfl rfl (by kernel_rfl) (fun w hS => ?_) ?_
                rotate_left
                · go_simp <;> with_reducible rfl
                dsimp only [List.set_cons_zero, List.set_cons_succ]
                refine wpSeq_take (d := 166) (v := ?_) rfl rfl (by kernel_rfl) (fun w hS => ?_) ?_
                rotate_left
                · go_simp <;> with_reducible rfl
                dsimp only [List.set_cons_zero, List.set_cons_succ]
                refine wpSeq_take (d := 167) (v := ?_) rfl rfl (by kernel_rfl) (fun w hS => ?_) ?_
                rotate_left
                · go_simp <;> with_reducible rfl
                dsimp only [List.set_cons_zero, List.set_cons_succ]
                refine wpSeq_take (d := 168) (v := ?_) rfl rfl (by kernel_rfl) (fun w hS => ?_) ?_
                rotate_left
                · go_simp <;> with_reducible rfl
                dsimp only [List.set_cons_zero, List.set_cons_succ]
                refine wpSeq_take (d := 170) (v := ?_) rfl rfl (by kernel_rfl) (fun w hS => ?_) ?_
                rotate_left
                · go_simp <;> with_reducible rfl
                dsimp only [List.set_cons_zero, List.set_cons_succ]
                refine wpSeq_take (d := 171) (v := ?_) rfl rfl (by kernel_rfl) (fun w hS => ?_) ?_
                rotate_left
                · go_simp <;> with_reducible rfl
                dsimp only [List.set_cons_zero, List.set_cons_succ]
                refine wpSeq_take (d := 172) (v := ?_) rfl rfl (by kernel_rfl) (fun w hS => ?_) ?_
                rotate_left
                · go_simp <;> with_reducible rfl
                dsimp only [List.set_cons_zero, List.set_cons_succ]
                refine wpSeq_take (d := 173) (v := ?_) rfl rfl (by kernel_rfl) (fun w hS => ?_) ?_
                rotate_left
                · go_simp <;> with_reducible rfl
                dsimp only [List.set_cons_zero, List.set_cons_succ]
                refine wpSeq_take (d := 174) (v := ?_) rfl rfl (by kernel_rfl) (fun w hS => ?_) ?_
                rotate_left
                · go_simp <;> with_reducible rfl
                dsimp only [List.set_cons_zero, List.set_cons_succ]
                refine wpSeq_take (d := 175) (v := .bool bz) rfl rfl (by kernel_rfl) (fun w hS => ?_) ?_
                · rw [← HBZ.out]; go_simp; by_cases h1 : t0 = 0 <;> by_cases h2 : t1 = 0 <;> simp [h1, h2]
                dsimp only [List.set_cons_zero, List.set_cons_succ]
                refine wpSeq_call rfl (by kernel_rfl) (fun K hK => ?_)
                go_simp
                (with_reducible refine (cD _ hH.2.2.2.2.2.1).mono ?_)
                rintro e w' ⟨rfl, hq⟩
                refine hK.out _ _ ?_ (fun hH => ?_)
                · exact ⟨hq.keep hH.1, hq.keep hH.2.1, hq.keep hH.2.2.1, hq.keep hH.2.2.2.1, hq.keep hH.2.2.2.2.1, c.keepB hH.2.2.2.2.2.1 hq, hH.2.2.2.2.2.2.trans hq⟩
                clear hK
                refine wpSeq_take (d := 176) (v := ?_) rfl rfl (by kernel_rfl) (fun w hS => ?_) ?_
                rotate_left
                · go_simp <;> with_reducible rfl
                dsimp only [List.set_cons_zero, List.set_cons_succ]
                refine wpSeq_take (d := 177) (v := ?_) rfl rfl (by kernel_rfl) (fun w hS => ?_) ?_
                rotate_left
                · go_simp <;> with_reducible rfl
                dsimp only [List.set_cons_zero, List.set_cons_succ]
                refine wpSeq_done ?_
                refine NoPanic.normal ?_
                have HH := Lib.hid hH
                clear r0 r1 r2 r3 r4 hH
                go_wp2
                go_roundw
                case rel => exact ⟨i + 1, W1, (t0, t1), by omega, by go_num, HZ.out.1, by rw [show ((i + 1 : Nat) : Int) = (i : Int) + 1 by omega]; exact HZ.out.2.1, HH.out.2.2.2.2.2.1, ⟨_, _, _, rfl, HZ.out.2.2.1.keepB HH.out.2.2.2.2.2.2⟩, HZ.out.2.2.2.trans HH.out.2.2.2.2.2.2⟩
                case measure => simp [intOf]; omega
            · go_wp2_with fail
              have qx : B w6 (w6.alloc (.cells #[.int .i64 0, .int .i64 0] 38)) := (B.refl _).alloc _ _
              have ob3 := obj_new w6 (.cells #[.int .i64 0, .int .i64 0] 38)
              replace hs1 := c.keepB hs1 qx
              replace hA := hA.keepB qx
              replace q1 := q1.trans qx
              generalize w6.alloc (.cells #[.int .i64 0, .int .i64 0] 38) = w7 at *
              generalize w6.heap.size = b23 at *
              clear qx
              have r0 := obj_cell ob3 0
              have r1 := obj_cell ob3 1
              have r2 := obj_cell hA.obj 0
              have r3 := obj_cell hA.obj 1
              have r4 := obj_cell hA.obj 2
              rw [hWl1] at r2
              have HZ := Lib.hid (And.intro hWl1 (And.intro hWB1 (And.intro hA q1)))
              clear hWB1 hA q1 ob3 hWl1
              obtain ⟨bz, hbz⟩ : ∃ z, (decide (t0 = 0) && decide (t1 = 0)) = z := ⟨_, rfl⟩
              rw [hbz] at cD
              have HBZ := Lib.hid hbz
              have hz4 : (bz != bz) = false := by cases bz <;> rfl
              clear hbz
              all_goals
                refine wp_region_noPanic ?_
                refine wp_region_seq (S := fun w' => w'.cell? ⟨b23, 0, none⟩ = some (.int .i64 0) ∧ w'.cell? ⟨b23, 1, none⟩ = some (.int .i64 0) ∧ w'.cell? ⟨bd, 0, none⟩ = some (.slice od NW cd) ∧ w'.cell? ⟨bd, 1, none⟩ = some (.int .i64 t0) ∧ w'.cell? ⟨bd, 2, none⟩ = some (.int .i64 t1) ∧ St w' lo1 hi1 (.pointer (some sa)) W1 (t0, t1) ∧ B w7 w') [(0, 0), (1, 0), (2, 0), (3, 0), (4, 0), (5, 0), (6, 1), (7, 1), (8, 1), (9, 1), (10, 1), (11, 1), (12, 1), (13, 1), (14, 1), (15, 0), (16, 0), (17, 0), (18, 0), (19, 0), (20, 0), (21, 0), (22, 0), (23, 0), (24, 0), (25, 0), (26, 0), (27, 0), (29, 0), (30, 0), (31, 0), (32, 0), (28, 2), (33, 0), (34, 0), (35, 0), (36, 0), (38, 0), (39, 0), (40, 0), (41, 0), (42, 0), (43, 0), (37, 2), (44, 0), (45, 0)] [0, 0, 3, 4, 8, 24, 32, 32, 160, 288, 544, 32, 3104, 4128, 8288, 16424, 32776, 65568, 131072, 393216, 655360, 1048576, 1048576, 7340032, 9568256, 16908288, 34603008, 67108864, 201326592, 67108864, 603979776, 1140850688, 2214592512, 4630511616, 8657043456, 17448304640, 34359738368, 103079215104, 34359738368, 309237645312, 584115552256, 1133871366144, 34359738368, 6631429505024, 8967891714048, 17626545782784] [0, 0, 3, 4, 8, 24, 32, 32, 160, 288, 544, 32, 3104, 4128, 8288, 16424, 32776, 65536, 131072, 393216, 655360, 1048576, 1048576, 7340032, 9568256, 16908288, 33554432, 67108864, 201326592, 67108864, 603979776, 1140850688, 2214592512, 4630511616, 8657043456, 17179869184, 34359738368, 103079215104, 34359738368, 309237645312, 584115552256, 1133871366144, 34359738368, 6631429505024, 8967891714048, 17626545782784] (by kernel_rfl) (by kernel_rfl) (fun _ _ _ _ _ h => h) ?_ (fun hH => ?_)
                · exact ⟨(B.refl w7).drew.keep r0, (B.refl w7).drew.keep r1, (B.refl w7).drew.keep r2, (B.refl w7).drew.keep r3, (B.refl w7).drew.keep r4, c.keepB hs1 (B.refl w7).drew, (B.refl w7).drew⟩
                refine wpSeq_take (d := 132) (v := ?_) rfl rfl (by kernel_rfl) (fun w hS => ?_) ?_
                rotate_left
                · go_simp <;> with_reducible rfl
                dsimp only [List.set_cons_zero, List.set_cons_succ]
                refine wpSeq_take (d := 133) (v := ?_) rfl rfl (by kernel_rfl) (fun w hS => ?_) ?_
                rotate_left
                · go_simp <;> with_reducible rfl
                dsimp only [List.set_cons_zero, List.set_cons_succ]
                refine wpSeq_take (d := 134) (v := ?_) rfl rfl (by kernel_rfl) (fun w hS => ?_) ?_
                rotate_left
                · go_simp <;> with_reducible rfl
                dsimp only [List.set_cons_zero, List.set_cons_succ]
                refine wpSeq_take (d := 135) (v := ?_) rfl rfl (by kernel_rfl) (fun w hS => ?_) ?_
                rotate_left
                · go_simp <;> with_reducible rfl
                dsimp only [List.set_cons_zero, List.set_cons_succ]
                refine wpSeq_take (d := 136) (v := ?_) rfl rfl (by kernel_rfl) (fun w hS => ?_) ?_
                rotate_left
                · go_simp <;> with_reducible rfl
                dsimp only [List.set_cons_zero, List.set_cons_succ]
                refine wpSeq_take (d := 137) (v := ?_) rfl rfl (by kernel_rfl) (fun w hS => ?_) ?_
                rotate_left
                · go_simp <;> with_reducible rfl
                dsimp only [List.set_cons_zero, List.set_cons_succ]
                refine wpSeq_pass (d := 138) rfl rfl (by kernel_rfl) ?_
                dsimp only [List.set_cons_zero, List.set_cons_succ]
                refine wpSeq_pass (d := 139) rfl rfl (by kernel_rfl) ?_
                dsimp only [List.set_cons_zero, List.set_cons_succ]
                refine wpSeq_pass (d := 140) rfl rfl (by kernel_rfl) ?_
                dsimp only [List.set_cons_zero, List.set_cons_succ]
                refine wpSeq_pass (d := 141) rfl rfl (by kernel_rfl) ?_
                dsimp only [List.set_cons_zero, List.set_cons_succ]
                refine wpSeq_pass (d := 142) rfl rfl (by kernel_rfl) ?_
                dsimp only [List.set_cons_zero, List.set_cons_succ]
                refine wpSeq_pass (d := 143) rfl rfl (by kernel_rfl) ?_
                dsimp only [List.set_cons_zero, List.set_cons_succ]
                refine wpSeq_pass (d := 144) rfl rfl (by kernel_rfl) ?_
                dsimp only [List.set_cons_zero, List.set_cons_succ]
                refine wpSeq_pass (d := 145) rfl rfl (by kernel_rfl) ?_
                dsimp only [List.set_cons_zero, List.set_cons_succ]
                refine wpSeq_pass (d := 146) rfl rfl (by kernel_rfl) ?_
                dsimp only [List.set_cons_zero, List.set_cons_succ]
                refine wpSeq_take (d := 147) (v := ?_) rfl rfl (by kernel_rfl) (fun w hS => ?_) ?_
                rotate_left
                · go_simp <;> with_reducible rfl
                dsimp only [List.set_cons_zero, List.set_cons_succ]
                refine wpSeq_take (d := 148) (v := ?_) rfl rfl (by kernel_rfl) (fun w hS => ?_) ?_
                rotate_left
                · go_simp <;> with_reducible rfl
                dsimp only [List.set_cons_zero, List.set_cons_succ]
                refine wpSeq_take (d := 149) (v := ?_) rfl rfl (by kernel_rfl) (fun w hS => ?_) ?_
                rotate_left
                · go_simp <;> with_reducible rfl
                dsimp only [List.set_cons_zero, List.set_cons_succ]
                refine wpSeq_take (d := 150) (v := ?_) rfl rfl (by kernel_rfl) (fun w hS => ?_) ?_
                rotate_left
                · go_simp <;> with_reducible rfl
                dsimp only [List.set_cons_zero, List.set_cons_succ]
                refine wpSeq_take (d := 151) (v := ?_) rfl rfl (by kernel_rfl) (fun w hS => ?_) ?_
                rotate_left
                · go_simp <;> with_reducible rfl
                dsimp only [List.set_cons_zero, List.set_cons_succ]
                refine wpSeq_take (d := 152) (v := ?_) rfl rfl (by kernel_rfl) (fun w hS => ?_) ?_
                rotate_left
                · go_simp <;> with_reducible rfl
                dsimp only [List.set_cons_zero, List.set_cons_succ]
                refine wpSeq_take (d := 153) (v := ?_) rfl rfl (by kernel_rfl) (fun w hS => ?_) ?_
                rotate_left
                · go_simp <;> with_reducible rfl
                dsimp only [List.set_cons_zero, List.set_cons_succ]
                refine wpSeq_take (d := 154) (v := ?_) rfl rfl (by kernel_rfl) (fun w hS => ?_) ?_
                rotate_left
                · go_simp <;> with_reducible rfl
                dsimp only [List.set_cons_zero, List.set_cons_succ]
                refine wpSeq_take (d := 155) (v := ?_) rfl rfl (by kernel_rfl) (fun w hS => ?_) ?_
                rotate_left
                · go_simp <;> with_reducible rfl
                dsimp only [List.set_cons_zero, List.set_cons_succ]
                refine wpSeq_take (d := 156) (v := ?_) rfl rfl (by kernel_rfl) (fun w hS => ?_) ?_
                rotate_left
                · go_simp <;> with_reducible rfl
                dsimp only [List.set_cons_zero, List.set_cons_succ]
                refine wpSeq_take (d := 157) (v := ?_) rfl rfl (by kernel_rfl) (fun w hS => ?_) ?_
                rotate_left
                · go_simp <;> with_reducible rfl
                dsimp only [List.set_cons_zero, List.set_cons_succ]
                refine wpSeq_take (d := 158) (v := ?_) rfl rfl (by kernel_rfl) (fun w hS => ?_) ?_
                rotate_left
                · go_simp <;> with_reducible rfl
                dsimp only [List.set_cons_zero, List.set_cons_succ]
                refine wpSeq_take (d := 159) (v := ?_) rfl rfl (by kernel_rfl) (fun w hS => ?_) ?_
                rotate_left
                · go_simp <;> with_reducible rfl
                dsimp only [List.set_cons_zero, List.set_cons_succ]
                refine wpSeq_take (d := 161) (v := ?_) rfl rfl (by kernel_rfl) (fun w hS => ?_) ?_
                rotate_left
                · go_simp <;> with_reducible rfl
                dsimp only [List.set_cons_zero, List.set_cons_succ]
                refine wpSeq_take (d := 162) (v := ?_) rfl rfl (by kernel_rfl) (fun w hS => ?_) ?_
                rotate_left
                · go_simp <;> with_reducible rfl
                dsimp only [List.set_cons_zero, List.set_cons_succ]
                refine wpSeq_take (d := 163) (v := ?_) rfl rfl (by kernel_rfl) (fun w hS => ?_) ?_
                rotate_left
                · go_simp <;> with_reducible rfl
                dsimp only [List.set_cons_zero, List.set_cons_succ]
                refine wpSeq_take (d := 164) (v := ?_) rfl rfl (by kernel_rfl) (fun w hS => ?_) ?_
                rotate_left
                · go_simp <;> with_reducible rfl
                dsimp only [List.set_cons_zero, List.set_cons_succ]
                refine wpSeq_call rfl (by kernel_rfl) (fun K hK => ?_)
                go_simp
                (with_reducible refine (c.tip _ _ _ _ _ _ hH.2.2.2.2.2.1).mono ?_)
                rintro e w' ⟨rfl, hq⟩
                refine hK.out _ _ ?_ (fun hH => ?_)
                · exact ⟨hq.keep hH.1, hq.keep hH.2.1, hq.keep hH.2.2.1, hq.keep hH.2.2.2.1, hq.keep hH.2.2.2.2.1, c.keepB hH.2.2.2.2.2.1 hq, hH.2.2.2.2.2.2.trans hq⟩
                clear hK
                refine wpSeq_take (d := 165) (v := ?_) rfl rfl (by kernel_rfl) (fun w hS => ?_) ?_
                rotate_left
                · go_simp <;> with_reducible rfl
                dsimp only [List.set_cons_zero, List.set_cons_succ]
                refine wpSeq_take (d := 166) (v := ?_) rfl rfl (by kernel_rfl) (fun w hS => ?_) ?_
                rotate_left
                · go_simp <;> with_reducible rfl
                dsimp only [List.set_cons_zero, List.set_cons_succ]
                refine wpSeq_take (d := 167) (v := ?_) rfl rfl (by kernel_rfl) (fun w hS => ?_) ?_
                rotate_left
                · go_simp <;> with_reducible rfl
                dsimp only [List.set_cons_zero, List.set_cons_succ]
                refine wpSeq_take (d := 168) (v := ?_) rfl rfl (by kernel_rfl) (fun w hS => ?_) ?_
                rotate_left
                · go_simp <;> with_reducible rfl
                dsimp only [List.set_cons_zero, List.set_cons_succ]
                refine wpSeq_take (d := 170) (v := ?_) rfl rfl (by kernel_rfl) (fun w hS => ?_) ?_
                rotate_left
                · go_simp <;> with_reducible rfl
                dsimp only [List.set_cons_zero, List.set_cons_succ]
                refine wpSeq_take (d := 171) (v := ?_) rfl rfl (by kernel_rfl) (fun w hS => ?_) ?_
                rotate_left
                · go_simp <;> with_reducible rfl
                dsimp only [List.set_cons_zero, List.set_cons_succ]
                refine wpSeq_take (d := 172) (v := ?_) rfl rfl (by kernel_rfl) (fun w hS => ?_) ?_
                rotate_left
                · go_simp <;> with_reducible rfl
                dsimp only [List.set_cons_zero, List.set_cons_succ]
                refine wpSeq_take (d := 173) (v := ?_) rfl rfl (by kernel_rfl) (fun w hS => ?_) ?_
                rotate_left
                · go_simp <;> with_reducible rfl
                dsimp only [List.set_cons_zero, List.set_cons_succ]
                refine wpSeq_take (d := 174) (v := ?_) rfl rfl (by kernel_rfl) (fun w hS => ?_) ?_
                rotate_left
                · go_simp <;> with_reducible rfl
                dsimp only [List.set_cons_zero, List.set_cons_succ]
                refine wpSeq_take (d := 175) (v := .bool bz) rfl rfl (by kernel_rfl) (fun w hS => ?_) ?_
                · rw [← HBZ.out]; go_simp; by_cases h1 : t0 = 0 <;> by_cases h2 : t1 = 0 <;> simp [h1, h2]
                dsimp only [List.set_cons_zero, List.set_cons_succ]
                refine wpSeq_call rfl (by kernel_rfl) (fun K hK => ?_)
                go_simp
                (with_reducible refine (cD _ hH.2.2.2.2.2.1).mono ?_)
                rintro e w' ⟨rfl, hq⟩
                refine hK.out _ _ ?_ (fun hH => ?_)
                · exact ⟨hq.keep hH.1, hq.keep hH.2.1, hq.keep hH.2.2.1, hq.keep hH.2.2.2.1, hq.keep hH.2.2.2.2.1, c.keepB hH.2.2.2.2.2.1 hq, hH.2.2.2.2.2.2.trans hq⟩
                clear hK
                refine wpSeq_take (d := 176) (v := ?_) rfl rfl (by kernel_rfl) (fun w hS => ?_) ?_
                rotate_left
                · go_simp <;> with_reducible rfl
                dsimp only [List.set_cons_zero, List.set_cons_succ]
                refine wpSeq_take (d := 177) (v := ?_) rfl rfl (by kernel_rfl) (fun w hS => ?_) ?_
                rotate_left
                · go_simp <;> with_reducible rfl
                dsimp only [List.set_cons_zero, List.set_cons_succ]
                refine wpSeq_done ?_
                refine NoPanic.normal ?_
                have HH := Lib.hid hH
                clear r0 r1 r2 r3 r4 hH
                go_wp2
                go_roundw
                case rel => exact ⟨i + 1, W1, (t0, t1), by omega, by go_num, HZ.out.1, by rw [show ((i + 1 : Nat) : Int) = (i : Int) + 1 by omega]; exact HZ.out.2.1, HH.out.2.2.2.2.2.1, ⟨_, _, _, rfl, HZ.out.2.2.1.keepB HH.out.2.2.2.2.2.2⟩, HZ.out.2.2.2.trans HH.out.2.2.2.2.2.2⟩
                case measure => simp [intOf]; omega
    · have hlB : decide ((i : Int) < (an : Int)) = false := decide_eq_false (by omega)
      have hlN : decide (i < an) = false := decide_eq_false hl
      obtain rfl : i = an := by omega
      have hlen1 : W.length ≤ 1000000 := by omega
      have hst := c.top hs
      have hdt : hi2 ≤ wl.heap.size := by obtain ⟨_, _, _, _, h'⟩ := hd; exact h'.top
      have cCl := cc.clone wl lo1 hi1 _ W T hs hlen1
      clear hi hl
      go_wp2_with fail
      refine cCl.mono ?_
      rintro e1 w4 ⟨tv, rfl, ht, q9⟩
      obtain ⟨ta, rfl⟩ := c.ptr ht
      replace hs := c.keepB hs q9
      replace hd := hd.on q9.below.size (fun i _ h2 => q9.below.block i (by omega))
      replace q := q.trans q9
      obtain ⟨lo3, hlo3⟩ : ∃ z, wl.heap.size = z := ⟨_, rfl⟩
      obtain ⟨hi3, hhi3⟩ : ∃ z, w4.heap.size = z := ⟨_, rfl⟩
      have hq9 := q9.below.size
      have hww := q.below.size
      have hsz0 : w.heap.size ≤ lo3 := by omega
      rw [hlo3, hhi3] at ht
      rw [hlo3] at hst hdt
      clear cCl q9
      go_wp2_with fail
      refine (c.draw _ _ _ _ _ _ 0 5 0 _ ht hWB (by omega) (by decide) (by decide) (by decide) (by omega)).mono ?_
      rintro e1 w5 ⟨rfl, ht5, g5⟩
      replace hs := c.on hs g5.size (fun b h1 h2 => g5.block b (by omega) (fun hb => by have := hb.1; omega))
      replace hd := hd.on g5.size (fun i h1 h2 => g5.block i (by omega) (fun hb => by have := hb.1; omega))
      replace q := g5.b q (fun i hi => by omega)
      have hsz5 := g5.size
      clear g5 ht
      go_wp2_with fail
      refine (c.give _ _ _ _ _ _ 1 _ ht5 (hWB.draw 0 5 0) (by omega) (by decide) (by rw [drawW_len]; omega)).mono ?_
      rintro e1 w6 ⟨rfl, ht6, g6⟩
      replace hs := c.on hs g6.size (fun b h1 h2 => g6.block b (by omega) (fun hb => by have := hb.1; omega))
      replace hd := hd.on g6.size (fun i h1 h2 => g6.block i (by omega) (fun hb => by have := hb.1; omega))
      replace q := g6.b q (fun i hi => by omega)
      clear g6 ht5 ht6
      obtain ⟨b9, od, cd, e9, hA⟩ := hd
      obtain rfl : bd = b9 := by simpa using e9
      clear e9 hWB hsz5 hq9 hww hhi3 hlo3 hst hdt hsz0
      have HS2 := Lib.hid (And.intro hs (And.intro hA q))
      clear hs hA q
      go_wp2_with fail
      go_loopw [27] (fun jv wr => ∃ j : Nat, j ≤ NW ∧ jv = .int .i64 j ∧ B w6 wr) (fun jv _ => NW + 1 - (intOf jv).toNat)
      case atStart => exact ⟨0, Nat.zero_le _, rfl, B.refl _⟩
      case round =>
        obtain ⟨j, hj, rfl, qj⟩ := hrel
        obtain ⟨wj, rfl⟩ : ∃ wj : World, wj = wr := ⟨_, rfl⟩
        have hs := c.keepB HS2.out.1 qj
        have hA := HS2.out.2.1.keepB qj
        have r0 := obj_cell hA.obj 0
        rw [hWl] at r0
        by_cases hjl : j < NW
        · have hjB : decide ((j : Int) < (NW : Int)) = true := decide_eq_true (by omega)
          have hjN : decide (j < NW) = true := decide_eq_true hjl
          have hjI : (j : Int) < (NW : Int) := by omega
          have hj0 : (0 : Int) ≤ (j : Int) := by omega
          have wj1 : IntKind.i64.wrap ((j : Int) + 1) = (j : Int) + 1 := wrapI (by omega) (by omega)
          have hsj : hasS W (j : Int) = true := by unfold hasS; simp only [Bool.and_eq_true, decide_eq_true_eq]; omega
          obtain ⟨_, _, hgj⟩ := hasS_ix hsj
          rw [show ((j : Int)).toNat = j by omega] at hgj
          have cA := c.at_ wj lo1 hi1 _ W T (j : Int) hs (by unfold I64; omega) hlen1
          rw [hsj, show atS W (j : Int) = getS W (j : Int) by unfold atS; rw [if_pos hsj]] at cA
          generalize getS W (j : Int) = Y at *
          obtain ⟨y0, y1⟩ := Y
          simp only at cA
          have HJ := Lib.hid (And.intro hgj (And.intro hjl (And.intro hA qj)))
          clear hA hgj hjl hj qj hsj hs
          go_wp2_with fail
          refine cA.mono ?_
          rintro e1 w7 ⟨rfl, q9⟩
          clear cA
          go_wp2_with fail
          have qx : B w7 (w7.alloc (.cells #[.int .i64 y0, .int .i64 y1] 38)) := (B.refl _).alloc _ _
          have ob3 := obj_new w7 (.cells #[.int .i64 y0, .int .i64 y1] 38)
          replace q9 := q9.trans qx
          generalize w7.alloc (.cells #[.int .i64 y0, .int .i64 y1] 38) = w8 at *
          generalize w7.heap.size = b28 at *
          have hA := HJ.out.2.2.1.keepB q9
          obtain ⟨gr, rfl, _, _, _, r5, r6, _, _⟩ := hA.at_ HJ.out.1
          have r2 := obj_cell hA.obj 0
          rw [hWl] at r2
          have r3 := obj_cell ob3 0
          have r4 := obj_cell ob3 1
          have HJ2 := Lib.hid (HJ.out.2.2.2.trans q9)
          clear q9 qx hA ob3 r0
          go_quiet (fail)
          go_wp2
          go_roundw
          case rel => exact ⟨j + 1, by have := HJ.out.2.1; omega, by go_num, HJ2.out.drewN _⟩
          case measure => have := HJ.out.2.1; simp [intOf]; omega
        · have hjB : decide ((j : Int) < (NW : Int)) = false := decide_eq_false (by omega)
          have hjN : decide (j < NW) = false := decide_eq_false hjl
          have qf := HS2.out.2.2.trans qj
          clear hs hA hj hjl qj
          go_wp2_with fail
          refine (cc.none _).mono ?_
          rintro e1 w7 ⟨nv, rfl, hn, q9⟩
          obtain ⟨na, rfl⟩ := c.ptr hn
          have cA0 := c.at_ w7 _ _ _ _ _ 0 hn (by decide) (by decide)
          rw [show hasS [] 0 = false by decide, show atS [] 0 = (0, 0) by decide] at cA0
          simp only at cA0
          replace qf := qf.trans q9
          clear q9 hn
          go_wp2_with fail
          refine cA0.mono ?_
          rintro e1 w8 ⟨rfl, q9⟩
          replace qf := qf.trans q9
          clear q9 cA0
          go_wp2
          go_ret
          exact ⟨rfl, qf.alloc _ _⟩
end Go.Proofs.Ytkhaephmpifcmaa

namespace Go.Proofs.Ytkhaephmpifcmaa
open Go.RowKit
set_option linter.unusedVariables false
/-- What is true is within its spans. -/
structure Holds (W : List Sp2) (T : Sp2) (V : List Int) (t : Int) : Prop where
  len : V.length = W.length
  at_ : ∀ (j : Nat) (s : Sp2) (x : Int), W[j]? = some s → V[j]? = some x → s.1 ≤ x ∧ x ≤ s.2
  tip : T.1 ≤ t ∧ t ≤ T.2
theorem Holds.draw {W : List Sp2} {T : Sp2} {V : List Int} {t i v e r x : Int} (h : Holds W T V t) (hok : drawOk W i v e = true) (hx : V[i.toNat]? = some x) (hr : lessS v e ≤ r ∧ r ≤ v + e) :
    Holds (drawW W i v e) (drawT W T i v e) (V.set i.toNat (x - r)) (t + r) := by
  obtain ⟨hi, _, _, _⟩ := drawOk_parts hok
  obtain ⟨_, hlt, hg⟩ := hasS_ix hi
  have hw := h.at_ _ _ _ hg hx
  have ht := h.tip
  unfold drawW drawT
  rw [if_pos hok, if_pos hok]
  refine ⟨by simp only [List.length_set]; exact h.len, fun j s y hs hy => ?_, by simp only; omega⟩
  by_cases hj : i.toNat = j
  · subst hj
    rw [List.getElem?_set_self hlt] at hs
    rw [List.getElem?_set_self (by rw [h.len]; exact hlt)] at hy
    simp only [Option.some.injEq] at hs hy
    subst hs hy
    simp only
    omega
  · rw [List.getElem?_set_ne hj] at hs hy
    exact h.at_ j s y hs hy
theorem Holds.give {W : List Sp2} {T : Sp2} {V : List Int} {t i x : Int} (h : Holds W T V t) (hi : hasS W i = true) (hx : V[i.toNat]? = some x) :
    Holds (giveW W T i) (giveT W T i) (V.set i.toNat (x + t)) 0 := by
  obtain ⟨_, hlt, hg⟩ := hasS_ix hi
  have hw := h.at_ _ _ _ hg hx
  have ht := h.tip
  unfold giveW giveT
  rw [if_pos hi, if_pos hi]
  refine ⟨by simp only [List.length_set]; exact h.len, fun j s y hs hy => ?_, by decide⟩
  by_cases hj : i.toNat = j
  · subst hj
    rw [List.getElem?_set_self hlt] at hs
    rw [List.getElem?_set_self (by rw [h.len]; exact hlt)] at hy
    simp only [Option.some.injEq] at hs hy
    subst hs hy
    simp only
    omega
  · rw [List.getElem?_set_ne hj] at hs hy
    exact h.at_ j s y hs hy
/-- What a stroke really draws lies within its error. -/
theorem real_in {v e u : Int} (he : 0 ≤ e) (hu : 0 ≤ u) (hv : 0 ≤ v) : lessS v e ≤ max (v - e + u % (2 * e + 1)) 0 ∧ max (v - e + u % (2 * e + 1)) 0 ≤ v + e := by
  have h1 := Int.emod_nonneg u (show 2 * e + 1 ≠ 0 by omega)
  have h2 := Int.emod_lt_of_pos u (show 0 < 2 * e + 1 by omega)
  unfold lessS
  generalize u % (2 * e + 1) = m at *
  omega
end Go.Proofs.Ytkhaephmpifcmaa

namespace Go.Proofs.Ytkhaephmpifcmaa
open Go.RowKit
theorem and_mask (a : Int) (m : Nat) (hm : m < 4611686018427387904) : 0 ≤ bits .and .i64 a (m : Int) ∧ bits .and .i64 a (m : Int) ≤ (m : Int) := by
  have h2 : (BitVec.ofInt 64 (m : Int)).toNat = m := by
    rw [BitVec.ofInt_natCast, BitVec.toNat_ofNat]; exact Nat.mod_eq_of_lt (by omega)
  have hx : (BitVec.ofInt 64 a).toNat &&& m ≤ m := Nat.and_le_right
  have e : bits .and .i64 a (m : Int) = IntKind.i64.wrap ((BitVec.ofInt 64 a &&& BitVec.ofInt 64 (m : Int)).toNat : Int) := rfl
  rw [e, BitVec.toNat_and, h2, IntKind.wrap_i64]
  omega
end Go.Proofs.Ytkhaephmpifcmaa

namespace Go.Proofs.Ytkhaephmpifcmaa
open Go.RowKit
set_option linter.unusedVariables false
set_option maxRecDepth 100000 in
set_option maxHeartbeats 8000000 in
theorem holds17_law {St : World → Nat → Nat → Value → List Sp2 → Sp2 → Prop} (c : TrkC St) (d : DropC St) (a b g h : Int) (lv : Value) (ll : List Nat) (av : Value) (al : List Act7) (n : Int) (ha : (Lit.int .u8 a).wf = true) (hb : (Lit.int .u8 b).wf = true) (hg : (Lit.int .u8 g).wf = true) (hh : (Lit.int .u8 h).wf = true) (hn : (Lit.int .u32 n).wf = true) (w : World) (hU : IsU32s w lv ll) (hAc : IsActs w av al) :
    Calls Try.prog 4 #[.int .u8 a, .int .u8 b, .int .u8 g, .int .u8 h, lv, av, .int .u32 n] w fun e w' => e = .returned (.bool true) ∧ B w w' := by
  obtain ⟨n1, n2⟩ := u32_wf hn
  clear hn
  replace ha := u8_wf ha
  replace hb := u8_wf hb
  replace hg := u8_wf hg
  replace hh := u8_wf hh
  have cK := fun w => known17_any c d w
  obtain ⟨ao, cap, rfl, hlm, hUl⟩ := hU
  have HU := Lib.hid (show IsU32s w (.slice ao ll.length cap) ll from ⟨ao, cap, rfl, hlm, hUl⟩)
  clear hUl
  obtain ⟨bo, bcap, rfl, hbm, hAt⟩ := hAc.form
  have HA0 := Lib.hid hAt
  clear hAt hAc
  obtain ⟨ln, hln⟩ : ∃ ln, ll.length = ln := ⟨_, rfl⟩
  obtain ⟨an, han⟩ : ∃ an, al.length = an := ⟨_, rfl⟩
  have cB0 := fun (h20 : ll.length ≤ 20) w (hV : IsU32s w (.slice ao ll.length cap) ll) => boards17_any a b g h _ ll h20 ha hb hg hh w hV
  have hR := seat_right ha hb hg hh ll
  have hF : (seatD a b g h ll).fs.length ≤ ll.length := fillsF_len (wares7 a b g h) ll 0
  have h4 := seat_four ha hb hg hh ll
  rw [hln] at HU cB0 hF ⊢
  rw [han] at ⊢ hbm
  have HN := Lib.hid (And.intro hln han)
  clear hlm hln han ha hb hg hh
  generalize seatD a b g h ll = D at *
  by_cases h20 : 20 < ln
  · have h20B : decide ((20 : Int) < (ln : Int)) = true := decide_eq_true (by omega)
    have h20N : decide (20 < ln) = true := decide_eq_true h20
    clear h20 cB0 HN
    go_enter Try.func4, Try.ntmps4
    go_wp2_with fail
    refine (cK _).mono ?_
    rintro e w1 ⟨rfl, q⟩
    go_wp2
    go_ret
    exact ⟨rfl, q⟩
  have h20B : decide ((20 : Int) < (ln : Int)) = false := decide_eq_false (by omega)
  have h20N : decide (20 < ln) = false := decide_eq_false h20
  by_cases h40 : 30 < an
  · have h40B : decide ((30 : Int) < (an : Int)) = true := decide_eq_true (by omega)
    have h40N : decide (30 < an) = true := decide_eq_true h40
    clear h20 h40 cB0 HN
    go_enter Try.func4, Try.ntmps4
    go_wp2_with fail
    refine (cK _).mono ?_
    rintro e w1 ⟨rfl, q⟩
    go_wp2
    go_ret
    exact ⟨rfl, q⟩
  have h40B : decide ((30 : Int) < (an : Int)) = false := decide_eq_false (by omega)
  have h40N : decide (30 < an) = false := decide_eq_false h40
  obtain ⟨hS1, hWB⟩ := startD_wb hR
  go_enter Try.func4, Try.ntmps4
  go_wp2_with fail
  refine (cK _).mono ?_
  rintro e w0 ⟨rfl, q0⟩
  have cB := cB0 (by omega) w0 (isU32s_keep HU.out q0)
  clear cK cB0
  go_wp2_with fail
  refine cB.mono ?_
  rintro e w1 ⟨P, X, rb, wv, tv, fv, rfl, hPd, hM, hD, ⟨l1, l2, hH⟩, q1⟩
  replace q1 := q0.trans q1
  have cN := c.new P w1 X hM (by rw [hPd]; exact hR) (by rw [hPd]; omega)
  rw [hPd] at cN
  clear cB hM hPd q0 HU
  go_wp2_with fail
  refine cN.mono ?_
  rintro e w2 ⟨v, rfl, hs, q2⟩
  obtain ⟨sa, rfl⟩ := c.ptr hs
  have hs1 := q1.below.size
  have q := q1.trans q2
  have hRs := fun w' (q : B w2 w') => r11start_any D rb l1 l2 wv tv fv w' (hH.keepB (q2.trans q)) (hD.keepB (q2.trans q)) hR (by omega)
  have hRs := hRs w2 (B.refl _)
  have hsz2 := q2.below.size
  generalize startD D = S at *
  obtain ⟨NW, hNW⟩ : ∃ z, S.length = z := ⟨_, rfl⟩
  rw [hNW] at hRs
  have hNW1 : NW ≤ 1000 ∧ 4 ≤ NW := by omega
  clear cN hD hH hF hR q2
  have hlo := c.top hs
  obtain ⟨hi1, hhi1⟩ : ∃ z, w2.heap.size = z := ⟨_, rfl⟩
  obtain ⟨lo1, hlo1⟩ : ∃ z, w1.heap.size = z := ⟨_, rfl⟩
  rw [hhi1] at hs hlo hsz2
  rw [hlo1] at hs hs1 hsz2
  obtain ⟨i0, hi0, hz0, hz1, hz2⟩ := info_of longInfo
  have hmade := made_longs NW
  have hb16 : i0.bytes * NW ≤ 281474976710656 := by rw [hz2]; omega
  have hbml : NW ≤ maxLen := by unfold maxLen; omega
  go_wp2_with fail
  refine hRs.mono ?_
  rintro e w3 ⟨gs, rfl, _, q3⟩
  replace hs := c.keepB hs q3
  replace q := q.trans q3
  have hsz3 := q3.below.size
  rw [hhi1] at hsz3
  clear hRs q3 hhi1 hlo1
  go_wp2_with (at_make; refine wpList_make_full _ rfl _ _ 48 rfl w3.heap.size 2 i0 _ 1 Try.underlying48 hi0 hz0 hz1 .i64 .i64 _ _ NW rfl rfl rfl rfl hb16 hbml (Nat.le_refl _) ?_; intro wm hrow hgrow; have hr2 : RowJ wm w3.heap.size w3.heap.size NW (List.replicate NW 0) := (by unfold RowJ; rw [← hmade]; exact hrow); have qm := (B.refl w3).grownBy hgrow (fun _ h => by cases h); clear hgrow hrow; go_wp2_with fail)
  obtain ⟨gv, hgv⟩ : ∃ z, w3.heap.size = z := ⟨_, rfl⟩
  rw [hgv] at hr2 hsz3
  try rw [hgv]
  replace hs := c.keepB hs qm
  replace q := q.trans qm
  have hgw : w.heap.size ≤ gv := by omega
  have hlw : w.heap.size ≤ lo1 := by omega
  have HS := Lib.hid (And.intro hr2 (And.intro hs (And.intro q (And.intro hWB hNW))))
  clear hr2 hs q qm hgv hmade hb16 hbml hz0 hz1 hz2 hi0 hsz2 hs1 hlo hS1
  go_loopw [20] (fun iv wr => ∃ (i : Nat) (V : List Int), i ≤ NW ∧ iv = .int .i64 i ∧ RowJ wr gv gv NW V ∧ (∀ (j : Nat) (s : Sp2) (x : Int), j < i → S[j]? = some s → V[j]? = some x → s.1 ≤ x ∧ x ≤ s.2) ∧ St wr lo1 hi1 (.pointer (some sa)) S (0, 0) ∧ B w wr) (fun iv _ => NW + 1 - (intOf iv).toNat)
  case atStart => exact ⟨0, _, Nat.zero_le _, rfl, HS.out.1, fun j s x hj => absurd hj (Nat.not_lt_zero _), HS.out.2.1, HS.out.2.2.1⟩
  case round =>
    obtain ⟨i, V, hi, rfl, hrow, hin, hs, q⟩ := hrel
    obtain ⟨wl, rfl⟩ : ∃ wl : World, wl = wr := ⟨_, rfl⟩
    by_cases hl : i < NW
    · have hlB : decide ((i : Int) < (NW : Int)) = true := decide_eq_true (by omega)
      have hlN : decide (i < NW) = true := decide_eq_true hl
      have hlI : (i : Int) < (NW : Int) := by omega
      have hi0 : (0 : Int) ≤ (i : Int) := by omega
      have wi1 : IntKind.i64.wrap ((i : Int) + 1) = (i : Int) + 1 := wrapI (by omega) (by omega)
      have hsi : hasS S (i : Int) = true := by have := HS.out.2.2.2.2; unfold hasS; simp only [Bool.and_eq_true, decide_eq_true_eq]; omega
      obtain ⟨_, _, hgi⟩ := hasS_ix hsi
      rw [show ((i : Int)).toNat = i by omega] at hgi
      have hbd := HS.out.2.2.2.1.at_ hsi
      have cA := c.at_ wl lo1 hi1 _ S (0, 0) (i : Int) hs (by unfold I64; omega) (by have := HS.out.2.2.2.2; omega)
      rw [hsi, show atS S (i : Int) = getS S (i : Int) by unfold atS; rw [if_pos hsi]] at cA
      generalize getS S (i : Int) = Y at *
      obtain ⟨x0, x1⟩ := Y
      simp only at cA hbd
      obtain ⟨m1, hm1⟩ : ∃ z, x1 - x0 = z := ⟨_, rfl⟩
      have u1 : IntKind.i64.wrap (x1 - x0) = m1 := by rw [hm1]; exact wrapI (by omega) (by omega)
      obtain ⟨m2, hm2⟩ : ∃ z, m1 + 1 = z := ⟨_, rfl⟩
      have u2 : IntKind.i64.wrap (m1 + 1) = m2 := by rw [hm2]; exact wrapI (by omega) (by omega)
      have hm20 : ¬ m2 = 0 := by omega
      have u3 : IntKind.i64.wrap n = n := wrapI (by omega) (by omega)
      obtain ⟨r, hr⟩ : ∃ z, n % m2 = z := ⟨_, rfl⟩
      have hr0 := Int.emod_nonneg n hm20
      have hr1 := Int.emod_lt_of_pos n (show 0 < m2 by omega)
      rw [hr] at hr0 hr1
      have u4 : n.tmod m2 = r := by rw [Int.tmod_eq_emod_of_nonneg (by omega)]; exact hr
      have u5 : IntKind.i64.wrap r = r := wrapI (by omega) (by omega)
      obtain ⟨y, hy⟩ : ∃ z, x0 + r = z := ⟨_, rfl⟩
      have u6 : IntKind.i64.wrap (x0 + r) = y := by rw [hy]; exact wrapI (by omega) (by omega)
      have hyB : x0 ≤ y ∧ y ≤ x1 := by omega
      have hl6 : (0 : Int) ≤ x0 := by omega
      have HI := Lib.hid (And.intro hl (And.intro hrow (And.intro hin (And.intro hs (And.intro q (And.intro hgi hyB))))))
      clear hl hrow hin hs q hgi hbd hm1 hm2 hr hr0 hr1 hy hyB hsi hi
      go_wp2_with fail
      refine cA.mono ?_
      rintro e1 w5 ⟨rfl, q9⟩
      clear cA
      go_wp2_with fail
      have qx : B w5 (w5.alloc (.cells #[.int .i64 x0, .int .i64 x1] 38)) := (B.refl _).alloc _ _
      have ob3 := obj_new w5 (.cells #[.int .i64 x0, .int .i64 x1] 38)
      replace q9 := q9.trans qx
      generalize w5.alloc (.cells #[.int .i64 x0, .int .i64 x1] 38) = w6 at *
      generalize w5.heap.size = b21 at *
      have r0 := obj_cell ob3 0
      have r1 := obj_cell ob3 1
      have hrow := HI.out.2.1.keep q9
      obtain ⟨_, _, r2, r3⟩ := hrow.at_ (i := i) (by have := HI.out.1; omega)
      clear qx ob3
      refine wp_region_noPanic ?_
      refine wp_region_gate (S := fun w' => w'.cell? ⟨b21, 0, none⟩ = some (.int .i64 x0) ∧ w'.cell? ⟨b21, 1, none⟩ = some (.int .i64 x1)) 15 [(0, 3), (1, 3), (2, 3), (3, 0), (4, 3), (5, 3), (6, 3), (7, 0), (8, 3), (9, 0), (10, 3), (11, 3), (12, 3), (13, 3), (14, 3), (15, 4)] [0, 0, 0, 4, 0, 16, 0, 64, 0, 256, 640, 1024, 2080, 4104, 16383, 32767] [0, 0, 0, 4, 0, 16, 0, 64, 0, 256, 640, 1024, 2080, 4104, 3, 24576] [0, 0, 0, 57352, 0, 0, 0, 64640, 0, 65024, 0, 0, 0, 0, 0, 0] (by kernel_rfl) (by kernel_rfl) (fun _ _ _ _ _ h => h) ?_ (fun hH => ?_)
      · exact ⟨r0, r1⟩
      refine wpSeqG_free (d := 74) (v := ?_) rfl rfl (by kernel_rfl) (fun w => ?_) ?_
      rotate_left
      · go_simp <;> with_reducible rfl
      dsimp only [List.set_cons_zero, List.set_cons_succ]
      refine wpSeqG_free (d := 75) (v := ?_) rfl rfl (by kernel_rfl) (fun w => ?_) ?_
      rotate_left
      · go_simp <;> with_reducible rfl
      dsimp only [List.set_cons_zero, List.set_cons_succ]
      refine wpSeqG_free (d := 76) (v := ?_) rfl rfl (by kernel_rfl) (fun w => ?_) ?_
      rotate_left
      · go_simp <;> with_reducible rfl
      dsimp only [List.set_cons_zero, List.set_cons_succ]
      refine wpSeqG_take (d := 77) (v := ?_) rfl rfl (by kernel_rfl) (fun w hS => ?_) ?_
      rotate_left
      · go_simp <;> with_reducible rfl
      dsimp only [List.set_cons_zero, List.set_cons_succ]
      refine wpSeqG_free (d := 78) (v := ?_) rfl rfl (by kernel_rfl) (fun w => ?_) ?_
      rotate_left
      · go_simp <;> with_reducible rfl
      dsimp only [List.set_cons_zero, List.set_cons_succ]
      refine wpSeqG_free (d := 79) (v := ?_) rfl rfl (by kernel_rfl) (fun w => ?_) ?_
      rotate_left
      · go_simp <;> with_reducible rfl
      dsimp only [List.set_cons_zero, List.set_cons_succ]
      refine wpSeqG_free (d := 80) (v := ?_) rfl rfl (by kernel_rfl) (fun w => ?_) ?_
      rotate_left
      · go_simp <;> with_reducible rfl
      dsimp only [List.set_cons_zero, List.set_cons_succ]
      refine wpSeqG_take (d := 81) (v := ?_) rfl rfl (by kernel_rfl) (fun w hS => ?_) ?_
      rotate_left
      · go_simp <;> with_reducible rfl
      dsimp only [List.set_cons_zero, List.set_cons_succ]
      refine wpSeqG_free (d := 82) (v := ?_) rfl rfl (by kernel_rfl) (fun w => ?_) ?_
      rotate_left
      · go_simp <;> with_reducible rfl
      dsimp only [List.set_cons_zero, List.set_cons_succ]
      refine wpSeqG_take (d := 83) (v := ?_) rfl rfl (by kernel_rfl) (fun w hS => ?_) ?_
      rotate_left
      · go_simp <;> with_reducible rfl
      dsimp only [List.set_cons_zero, List.set_cons_succ]
      refine wpSeqG_free (d := 84) (v := ?_) rfl rfl (by kernel_rfl) (fun w => ?_) ?_
      rotate_left
      · go_simp <;> with_reducible rfl
      dsimp only [List.set_cons_zero, List.set_cons_succ]
      refine wpSeqG_free (d := 85) (v := ?_) rfl rfl (by kernel_rfl) (fun w => ?_) ?_
      rotate_left
      · go_simp <;> with_reducible rfl
      dsimp only [List.set_cons_zero, List.set_cons_succ]
      refine wpSeqG_free (d := 86) (v := ?_) rfl rfl (by kernel_rfl) (fun w => ?_) ?_
      rotate_left
      · go_simp <;> with_reducible rfl
      dsimp only [List.set_cons_zero, List.set_cons_succ]
      refine wpSeqG_free (d := 87) (v := ?_) rfl rfl (by kernel_rfl) (fun w => ?_) ?_
      rotate_left
      · go_simp <;> with_reducible rfl
      dsimp only [List.set_cons_zero, List.set_cons_succ]
      refine wpSeqG_free (d := 88) (v := ?_) rfl rfl (by kernel_rfl) (fun w => ?_) ?_
      rotate_left
      · go_simp <;> with_reducible rfl
      dsimp only [List.set_cons_zero, List.set_cons_succ]
      refine wpSeqG_gate rfl (by kernel_rfl) (fun K hK => ?_)
      have rr3 : w6.drew.frozen? ⟨gv, i, none⟩ = false := r3
      have rr2 : w6.drew.cell? ⟨gv, i, none⟩ = some (.int .i64 (V.getD i 0)) := r2
      generalize V.getD i 0 = VV at *
      go_simp
      refine hK.out _ _ ?_
      clear hK
      refine wpSeqG_done ?_
      refine NoPanic.normal ?_
      have hq9 := HI.out.2.2.2.2.1.trans q9
      have hsz9 := q9.below.size
      have hrw := hrow.keep (B.refl w6).drew
      obtain ⟨rw1, gw1⟩ := World.ownsRow.stored hrow i (.int .i64 y)
      rw [flatL_set] at rw1
      have hrow2 : RowJ (w6.setCell ⟨gv, i, none⟩ (.int .i64 y)).drew gv gv NW (V.set i y) := RowJ.keep rw1 (B.refl _).drew
      have g2 : G (fun b => b = gv) w6 (w6.setCell ⟨gv, i, none⟩ (.int .i64 y)).drew := (G.setCell (S := fun b => b = gv) (p := ⟨gv, i, none⟩) (G.refl _ w6) (.inl rfl) (.int .i64 y)).drew
      have hs6 := c.keepB HI.out.2.2.2.1 q9
      have ht6 := c.top hs6
      have hs2 := c.on hs6 g2.size (fun b h1 h2 => g2.block b (by omega) (fun hb => by omega))
      have q2' := g2.b hq9 (fun b hb => by subst hb; exact hgw)
      generalize (w6.setCell ⟨gv, i, none⟩ (.int .i64 y)).drew = w7 at *
      have HJ := Lib.hid (And.intro hrow2 (And.intro hs2 q2'))
      clear hq9 hsz9 hrw rw1 gw1 hrow2 g2 hs6 ht6 hs2 q2' hrow r0 r1 r2 r3 q9 hH
      go_wp2
      go_roundw
      case rel =>
        have h9 : i < NW := HI.out.1
        refine ⟨i + 1, V.set i y, Nat.succ_le_of_lt h9, by go_num, HJ.out.1, fun j s x hj hsj hxj => ?_, HJ.out.2.1, HJ.out.2.2⟩
        by_cases hji : i = j
        · subst hji
          rw [HI.out.2.2.2.2.2.1] at hsj
          obtain rfl : (x0, x1) = s := by simpa using hsj
          have hvl : i < V.length := by have := (HI.out.2.1.at_ HI.out.1).1; have := HI.out.1; omega
          rw [List.getElem?_set_self hvl] at hxj
          obtain rfl : y = x := by simpa using hxj
          exact HI.out.2.2.2.2.2.2
        · rw [List.getElem?_set_ne hji] at hxj
          exact HI.out.2.2.1 j s x (by omega) hsj hxj
      case measure =>
        have h9 : i < NW := HI.out.1
        simp [intOf]
        omega
    · have hlB : decide ((i : Int) < (NW : Int)) = false := decide_eq_false (by omega)
      have hlN : decide (i < NW) = false := decide_eq_false hl
      obtain rfl : NW = i := by omega
      have hvl : V.length = NW := (hrow.at_ (i := 0) (by omega)).1
      have hH0 : Holds S (0, 0) V 0 := ⟨by rw [hvl, HS.out.2.2.2.2], fun j s x hsj hxj => hin j s x (by have := (List.getElem?_eq_some_iff.1 hxj).1; omega) hsj hxj, by decide⟩
      have HL := Lib.hid (And.intro hrow (And.intro hH0 (And.intro hs q)))
      clear hrow hin hvl hH0 hs q hl hi
      go_wp2_with fail
      go_loopw [23, 24] (fun tv iv wr => ∃ (i : Nat) (V : List Int) (t : Int) (W : List Sp2) (T : Sp2), i ≤ an ∧ tv = .int .i64 t ∧ iv = .int .i64 i ∧ RowJ wr gv gv NW V ∧ W.length = NW ∧ WB W T (21000000000 + 2000000000 * (i : Int)) ∧ Holds W T V t ∧ St wr lo1 hi1 (.pointer (some sa)) W T ∧ B w wr) (fun _ iv _ => an + 1 - (intOf iv).toNat)
      case atStart => exact ⟨0, V, 0, S, (0, 0), Nat.zero_le _, rfl, rfl, HL.out.1, HS.out.2.2.2.2, HS.out.2.2.2.1.more (by omega), HL.out.2.1, HL.out.2.2.1, HL.out.2.2.2⟩
      case round =>
        clear HL HS
        obtain ⟨i, V, t, W, T, hi, rfl, rfl, hrow, hWl, hWB, hHo, hs, q⟩ := hrel
        obtain ⟨wl, rfl⟩ : ∃ wl : World, wl = wr := ⟨_, rfl⟩
        by_cases hl : i < an
        · have hlB : decide ((i : Int) < (an : Int)) = true := decide_eq_true (by omega)
          have hlN : decide (i < an) = true := decide_eq_true hl
          have hlI : (i : Int) < (an : Int) := by omega
          have hi0 : (0 : Int) ≤ (i : Int) := by omega
          have wi1 : IntKind.i64.wrap ((i : Int) + 1) = (i : Int) + 1 := wrapI (by omega) (by omega)
          obtain ⟨x, hx⟩ : ∃ x, al[i]? = some x := ⟨_, List.getElem?_eq_getElem (by rw [HN.out.2]; exact hl)⟩
          obtain ⟨pb, po, hp0, hxa⟩ := HA0.out i x hx
          subst hp0
          replace hxa := hxa.keepB q
          obtain ⟨ak, ai, av, ae⟩ := x
          obtain ⟨c0, c1, c2, c3, cl⟩ := hxa
          simp only at c0 c1 c2 c3 cl
          obtain ⟨⟨ak0, ak1⟩, aiI, avI, aeI⟩ := cl
          obtain ⟨k1, k2⟩ := and_mask ai 7 (by decide)
          obtain ⟨K, hK⟩ : ∃ K : Nat, bits BinOp.and IntKind.i64 ai 7 = (K : Int) := ⟨(bits BinOp.and IntKind.i64 ai 7).toNat, (Int.toNat_of_nonneg k1).symm⟩
          have hK7 : (K : Int) ≤ 7 := by rw [← hK]; exact k2
          obtain ⟨m3, hm3⟩ : ∃ z, ak % 3 = z := ⟨_, rfl⟩
          have tm3 : ak.tmod 3 = m3 := by rw [Int.tmod_eq_emod_of_nonneg (by omega)]; exact hm3
          have wm3 : IntKind.u8.wrap m3 = m3 := by rw [IntKind.wrap_u8]; omega
          have HB := Lib.hid (And.intro hx (And.intro hl (And.intro hrow (And.intro hWl (And.intro hWB (And.intro hHo (And.intro hs q)))))))
          have qa : B wl (wl.alloc (.cells #[.int .u8 ak, .int .i64 ai, .int .i64 av, .int .i64 ae] 34)) := (B.refl _).alloc _ _
          have ob := obj_new wl (.cells #[.int .u8 ak, .int .i64 ai, .int .i64 av, .int .i64 ae] 34)
          clear hx hl hrow hWl hWB hHo hs q hi k1 k2 hm3
          by_cases hkn : NW ≤ K
          · have hkB : decide ((NW : Int) ≤ (K : Int)) = true := decide_eq_true (by omega)
            have hkN : decide (NW ≤ K) = true := decide_eq_true hkn
            clear ob
            go_wp2
            go_roundw
            case rel => exact ⟨i + 1, V, t, W, T, HB.out.2.1, rfl, by go_num, HB.out.2.2.1.keep qa, HB.out.2.2.2.1, HB.out.2.2.2.2.1.more (by omega), HB.out.2.2.2.2.2.1, c.keepB HB.out.2.2.2.2.2.2.1 qa, HB.out.2.2.2.2.2.2.2.trans qa⟩
            case measure => have := HB.out.2.1; simp [intOf]; omega
          · have hkB : decide ((NW : Int) ≤ (K : Int)) = false := decide_eq_false (by omega)
            have hkN : decide (NW ≤ K) = false := decide_eq_false hkn
            have hKI : (K : Int) < (NW : Int) := by omega
            have hK0 : (0 : Int) ≤ (K : Int) := by omega
            by_cases hg : m3 = 2
            · subst hg
              have hsK : hasS W (K : Int) = true := by have := HB.out.2.2.2.1; unfold hasS; simp only [Bool.and_eq_true, decide_eq_true_eq]; omega
              obtain ⟨_, _, hgK⟩ := hasS_ix hsK
              rw [show ((K : Int)).toNat = K by omega] at hgK
              have hi9 : i < 30 := by have := HB.out.2.1; omega
              have cG := fun w' (hs : St w' lo1 hi1 (.pointer (some sa)) W T) => c.give w' lo1 hi1 (.pointer (some sa)) W T (K : Int) _ hs HB.out.2.2.2.2.1 (by omega) (by unfold I64; omega) (by have := HB.out.2.2.2.1; omega)
              rw [hsK] at cG
              go_wp2_with fail
              clear ob
              generalize wl.alloc (.cells #[.int .u8 ak, .int .i64 ai, .int .i64 av, .int .i64 ae] 34) = w5 at *
              have hs5 := c.keepB HB.out.2.2.2.2.2.2.1 qa
              have hrow5 := HB.out.2.2.1.keep qa
              have q5 := HB.out.2.2.2.2.2.2.2.trans qa
              have hsz5 := hrow5.at_ (i := K) (by omega)
              have bdK := HB.out.2.2.2.2.1.at_ hsK
              have hoK := HB.out.2.2.2.2.2.1.at_ _ _ _ hgK hsz5.2.1
              have hoT := HB.out.2.2.2.2.2.1.tip
              have hHo' := HB.out.2.2.2.2.2.1.give hsK (show V[((K : Int)).toNat]? = some (V.getD K 0) by rw [show ((K : Int)).toNat = K by omega]; exact hsz5.2.1)
              rw [show ((K : Int)).toNat = K by omega] at hHo'
              have hWB' := (HB.out.2.2.2.2.1.give (K : Int)).more (N := 21000000000 + 2000000000 * ((i : Int) + 1)) (by omega)
              have hWl' : (giveW W T (K : Int)).length = NW := by rw [giveW_len]; exact HB.out.2.2.2.1
              obtain ⟨xK, hxK⟩ : ∃ z, V.getD K 0 = z := ⟨_, rfl⟩
              rw [hxK] at hsz5 hoK hHo'
              obtain ⟨y, hy⟩ : ∃ z, xK + t = z := ⟨_, rfl⟩
              have uy : IntKind.i64.wrap (xK + t) = y := by rw [hy]; exact wrapI (by omega) (by omega)
              rw [hy] at hHo'
              have htop := c.top hs5
              have hxK' := hxK
              clear hy hxK hoK hoT bdK hgK hsz5
              refine (cG _ hs5).mono ?_
              rintro e1 w6 ⟨rfl, hs6, g6⟩
              have hrow6 : RowJ w6 gv gv NW V := own_on hrow5 (fun b h1 h2 => g6.block b h2 (fun hb => by have := hb.2; omega))
              have q6 := g6.b q5 (fun b hb => by have := hb.1; omega)
              have hszq : w5.heap.size ≤ w6.heap.size := g6.size
              obtain ⟨_, _, r2, r3⟩ := hrow6.at_ (i := K) (by omega)
              rw [hxK'] at r2
              obtain ⟨rw1, gw1⟩ := World.ownsRow.stored hrow6 K (.int .i64 y)
              rw [flatL_set] at rw1
              have g2 : G (fun b => b = gv) w6 (w6.setCell ⟨gv, K, none⟩ (.int .i64 y)) := G.setCell (S := fun b => b = gv) (p := ⟨gv, K, none⟩) (G.refl _ w6) (.inl rfl) (.int .i64 y)
              have ht6 := c.top hs6
              have hs8 := c.on hs6 g2.size (fun b h1 h2 => g2.block b (by omega) (fun hb => by omega))
              have q8 := g2.b q6 (fun b hb => by subst hb; exact hgw)
              have HJ0 := Lib.hid (And.intro (show RowJ (w6.setCell ⟨gv, K, none⟩ (.int .i64 y)) gv gv NW (V.set K y) from rw1) (And.intro hWl' (And.intro hWB' (And.intro hHo' (And.intro hs8 q8)))))
              clear cG hs5 hrow5 q5 htop hxK' rw1 gw1 g2 ht6 hs8 q8 q6 hs6 g6 hWl' hWB' hHo' hsK hszq hrow6
              go_wp2_with fail
              generalize giveW W T (K : Int) = W1 at *
              generalize giveT W T (K : Int) = T1 at *
              generalize V.set K y = V1 at *
              generalize (w6.setCell ⟨gv, K, none⟩ (.int .i64 y)) = WW at *
              have HJ := HJ0
              clear HJ0 r2 r3
              obtain ⟨wo, rfl⟩ : ∃ wo : World, wo = WW := ⟨_, rfl⟩
              go_loopw [30] (fun jv wr => ∃ j : Nat, j ≤ NW ∧ jv = .int .i64 j ∧ B wo wr) (fun jv _ => NW + 1 - (intOf jv).toNat)
              case atStart => exact ⟨0, Nat.zero_le _, rfl, B.refl _⟩
              case round =>
                obtain ⟨j, hj, rfl, g⟩ := hrel
                obtain ⟨wl2, rfl⟩ : ∃ wl2 : World, wl2 = wr := ⟨_, rfl⟩
                have hs9 := c.keepB HJ.out.2.2.2.2.1 g
                by_cases hjl : j < NW
                · have hjB : decide ((j : Int) < (NW : Int)) = true := decide_eq_true (by omega)
                  have hjN : decide (j < NW) = true := decide_eq_true hjl
                  have hjI : (j : Int) < (NW : Int) := by omega
                  have hj0 : (0 : Int) ≤ (j : Int) := by omega
                  have wj1 : IntKind.i64.wrap ((j : Int) + 1) = (j : Int) + 1 := wrapI (by omega) (by omega)
                  have hsj : hasS W1 (j : Int) = true := by have := HJ.out.2.1; unfold hasS; simp only [Bool.and_eq_true, decide_eq_true_eq]; omega
                  obtain ⟨_, _, hgj⟩ := hasS_ix hsj
                  rw [show ((j : Int)).toNat = j by omega] at hgj
                  have hrow9 := HJ.out.1.keep g
                  have hat := hrow9.at_ hjl
                  have hoj := HJ.out.2.2.2.1.at_ _ _ _ hgj hat.2.1
                  have cA := c.at_ wl2 lo1 hi1 _ W1 T1 (j : Int) hs9 (by unfold I64; omega) (by have := HJ.out.2.1; omega)
                  rw [hsj, show atS W1 (j : Int) = getS W1 (j : Int) by unfold atS; rw [if_pos hsj]] at cA
                  generalize getS W1 (j : Int) = Y at *
                  obtain ⟨y0, y1⟩ := Y
                  generalize V1.getD j 0 = xj at *
                  simp only at cA hoj
                  have o1 : decide (xj < y0) = false := decide_eq_false (by omega)
                  have o2 : decide (y1 < xj) = false := decide_eq_false (by omega)
                  have hcj := hat.2.2.1
                  have HG := Lib.hid (And.intro hjl (And.intro hrow9 g))
                  clear hat hoj hgj hsj hrow9 hs9 g hjl hj
                  go_wp2_with fail
                  refine cA.mono ?_
                  rintro e1 w11 ⟨rfl, q11⟩
                  replace hcj := q11.keep hcj
                  clear cA
                  go_wp2_with fail
                  have qx : B w11 (w11.alloc (.cells #[.int .i64 y0, .int .i64 y1] 38)) := (B.refl _).alloc _ _
                  have ob3 := obj_new w11 (.cells #[.int .i64 y0, .int .i64 y1] 38)
                  replace hcj := qx.keep hcj
                  replace q11 := q11.trans qx
                  clear qx
                  generalize w11.alloc (.cells #[.int .i64 y0, .int .i64 y1] 38) = w12 at *
                  generalize w11.heap.size = b31 at *
                  have r0 := obj_cell ob3 0
                  have r1 := obj_cell ob3 1
                  go_quiet (fail)
                  go_wp2
                  go_roundw
                  case rel => exact ⟨j + 1, Nat.succ_le_of_lt HG.out.1, by go_num, HG.out.2.2.trans (q11.trans ((B.refl _).drewN _))⟩
                  case measure => have := HG.out.1; simp [intOf]; omega
                · have hjB : decide ((j : Int) < (NW : Int)) = false := decide_eq_false (by omega)
                  have hjN : decide (j < NW) = false := decide_eq_false hjl
                  have cT := c.tip wl2 lo1 hi1 _ W1 T1 hs9
                  have hot := HJ.out.2.2.2.1.tip
                  have HT := Lib.hid (show W1.length = NW ∧ WB W1 T1 (21000000000 + 2000000000 * ((i : Int) + 1)) ∧ Holds W1 T1 V1 0 from ⟨HJ.out.2.1, HJ.out.2.2.1, HJ.out.2.2.2.1⟩)
                  have HG := Lib.hid (And.intro (HJ.out.1.keep g) (And.intro hs9 (HJ.out.2.2.2.2.2.trans g)))
                  generalize hT1 : T1 = TT at *
                  obtain ⟨p0, p1⟩ := TT
                  simp only at cT hot
                  have o1 : decide (0 < p0) = false := decide_eq_false (by omega)
                  have o2 : decide (p1 < 0) = false := decide_eq_false (by omega)
                  clear hot HJ hs9 g hjl hj
                  go_wp2_with fail
                  refine cT.mono ?_
                  rintro e1 w13 ⟨rfl, q13⟩
                  have qy : B w13 (w13.alloc (.cells #[.int .i64 p0, .int .i64 p1] 38)) := (B.refl _).alloc _ _
                  have qz := q13.trans qy
                  clear cT qy
                  go_wp2
                  go_roundw
                  case rel => exact ⟨i + 1, V1, 0, W1, (p0, p1), HB.out.2.1, rfl, by go_num, HG.out.1.keep qz, HT.out.1, HT.out.2.1, HT.out.2.2, c.keepB HG.out.2.1 qz, HG.out.2.2.trans qz⟩
                  case measure => have := HB.out.2.1; simp [intOf]; omega
            · have hgB : (m3 == 2) = false := by simp [hg]
              have hsK : hasS W (K : Int) = true := by have := HB.out.2.2.2.1; unfold hasS; simp only [Bool.and_eq_true, decide_eq_true_eq]; omega
              obtain ⟨_, _, hgK⟩ := hasS_ix hsK
              rw [show ((K : Int)).toNat = K by omega] at hgK
              have hi9 : i < 30 := by have := HB.out.2.1; omega
              obtain ⟨wv0, wv1⟩ := and_mask av 4095 (by decide)
              obtain ⟨ev0, ev1⟩ := and_mask ae 63 (by decide)
              obtain ⟨wv, hwv⟩ : ∃ z, bits BinOp.and IntKind.i64 av 4095 = z := ⟨_, rfl⟩
              obtain ⟨ev, hev⟩ : ∃ z, bits BinOp.and IntKind.i64 ae 63 = z := ⟨_, rfl⟩
              rw [show ((4095 : Nat) : Int) = 4095 by rfl, hwv] at wv0 wv1
              rw [show ((63 : Nat) : Int) = 63 by rfl, hev] at ev0 ev1
              have cD := fun w' (hs : St w' lo1 hi1 (.pointer (some sa)) W T) => c.draw w' lo1 hi1 (.pointer (some sa)) W T (K : Int) wv ev _ hs HB.out.2.2.2.2.1 (by omega) (by unfold I64; omega) (by unfold I64; omega) (by unfold I64; omega) (by have := HB.out.2.2.2.1; omega)
              have a0 := obj_cell ob 0
              have a1 := obj_cell ob 1
              have a2 := obj_cell ob 2
              have a3 := obj_cell ob 3
              go_wp2_with fail
              generalize hw5 : wl.alloc (.cells #[.int .u8 ak, .int .i64 ai, .int .i64 av, .int .i64 ae] 34) = w5 at *
              go_quiet (fail)
              go_wp2_with fail
              have qn : B w5 (w5.drewN nq) := (B.refl _).drewN _
              replace ob := qn.obj ob
              replace qa := qa.trans qn
              clear qn a0 a1 a2 a3 hw5
              generalize w5.drewN nq = w6 at *
              have hs6 := c.keepB HB.out.2.2.2.2.2.2.1 qa
              have hrow6 := HB.out.2.2.1.keep qa
              have q6 := HB.out.2.2.2.2.2.2.2.trans qa
              have htop := c.top hs6
              have hbx := obj_lt ob
              have hbg : hi1 ≤ wl.heap.size := c.top HB.out.2.2.2.2.2.2.1
              refine (cD _ hs6).mono ?_
              rintro e1 w7 ⟨rfl, hs7, g7⟩
              have hrow7 : RowJ w7 gv gv NW V := own_on hrow6 (fun b h1 h2 => g7.block b h2 (fun hb => by have := hb.2; omega))
              have q7 := g7.b q6 (fun b hb => by have := hb.1; omega)
              have ob7 := (g7.block wl.heap.size hbx (fun hb => by have := hb.2; omega)).trans ob
              have hWB' := HB.out.2.2.2.2.1.draw (K : Int) wv ev
              have hWl' : (drawW W (K : Int) wv ev).length = NW := by rw [drawW_len]; exact HB.out.2.2.2.1
              clear cD hs6 hrow6 q6 htop ob
              cases hok : drawOk W (K : Int) wv ev with
              | false =>
                rw [show drawW W (K : Int) wv ev = W by unfold drawW; rw [if_neg (by simp [hok])], show drawT W T (K : Int) wv ev = T by unfold drawT; rw [if_neg (by simp [hok])]] at hs7
                have HD := Lib.hid (And.intro hrow7 (And.intro hs7 q7))
                clear hrow7 hs7 q7 hWB' hWl' ob7 hok g7
                go_wp2
                go_roundw
                case rel => exact ⟨i + 1, V, t, W, T, HB.out.2.1, rfl, by go_num, HD.out.1, HB.out.2.2.2.1, HB.out.2.2.2.2.1.more (by omega), HB.out.2.2.2.2.2.1, HD.out.2.1, HD.out.2.2⟩
                case measure => have := HB.out.2.1; simp [intOf]; omega
              | true =>
                have a0 := obj_cell ob7 0
                have a1 := obj_cell ob7 1
                have a2 := obj_cell ob7 2
                have a3 := obj_cell ob7 3
                obtain ⟨_, r2, r3, r4⟩ := hrow7.at_ (i := K) (by omega)
                have hoK := HB.out.2.2.2.2.2.1.at_ _ _ _ hgK r2
                have hoT := HB.out.2.2.2.2.2.1.tip
                have bdK := HB.out.2.2.2.2.1.at_ hsK
                have hpo := (drawOk_parts hok).2.2.2
                have hHo' := fun r hr => HB.out.2.2.2.2.2.1.draw (r := r) hok (show V[((K : Int)).toNat]? = some (V.getD K 0) by rw [show ((K : Int)).toNat = K by omega]; exact r2) hr
                rw [show ((K : Int)).toNat = K by omega] at hHo'
                obtain ⟨U, hU⟩ : ∃ z, IntKind.u64.wrap av = z := ⟨_, rfl⟩
                have hU0 : 0 ≤ U ∧ U < 18446744073709551616 := by rw [← hU, IntKind.wrap_u64]; omega
                obtain ⟨uu, huu⟩ : ∃ z, U / 1048576 = z := ⟨_, rfl⟩
                have hu0 : 0 ≤ uu ∧ uu < 17592186044416 := by omega
                have xu : IntKind.i64.wrap uu = uu := wrapI (by omega) (by omega)
                have xu2 : IntKind.u64.wrap uu = uu := by rw [IntKind.wrap_u64]; omega
                have hre := real_in (v := wv) (e := ev) (u := uu) (by omega) (by omega) (by omega)
                obtain ⟨f2, hf2⟩ : ∃ z, 2 * ev = z := ⟨_, rfl⟩
                have xf2 : IntKind.i64.wrap (2 * ev) = f2 := by rw [hf2]; exact wrapI (by omega) (by omega)
                rw [hf2] at hre
                obtain ⟨f3, hf3⟩ : ∃ z, f2 + 1 = z := ⟨_, rfl⟩
                have xf3 : IntKind.i64.wrap (f2 + 1) = f3 := by rw [hf3]; exact wrapI (by omega) (by omega)
                rw [hf3] at hre
                have hf30 : ¬ f3 = 0 := by omega
                obtain ⟨mm, hmm⟩ : ∃ z, uu % f3 = z := ⟨_, rfl⟩
                have hmm0 := Int.emod_nonneg uu hf30
                have hmm1 := Int.emod_lt_of_pos uu (show 0 < f3 by omega)
                rw [hmm] at hre hmm0 hmm1
                have xmm : uu.tmod f3 = mm := by rw [Int.tmod_eq_emod_of_nonneg (by omega)]; exact hmm
                have ymm : IntKind.i64.wrap mm = mm := wrapI (by omega) (by omega)
                obtain ⟨d1, hd1⟩ : ∃ z, wv - ev = z := ⟨_, rfl⟩
                have xd1 : IntKind.i64.wrap (wv - ev) = d1 := by rw [hd1]; exact wrapI (by omega) (by omega)
                rw [hd1] at hre
                obtain ⟨s1, hs1'⟩ : ∃ z, d1 + mm = z := ⟨_, rfl⟩
                have xs1 : IntKind.i64.wrap (d1 + mm) = s1 := by rw [hs1']; exact wrapI (by omega) (by omega)
                rw [hs1'] at hre
                obtain ⟨rl, hrl⟩ : ∃ z, max s1 0 = z := ⟨_, rfl⟩
                rw [hrl] at hre
                have hrl0 : 0 ≤ rl ∧ rl ≤ wv + ev := by refine ⟨by omega, hre.2⟩
                replace hHo' := hHo' rl hre
                obtain ⟨xK, hxK⟩ : ∃ z, V.getD K 0 = z := ⟨_, rfl⟩
                rw [hxK] at r3 hoK hHo'
                obtain ⟨y, hy⟩ : ∃ z, xK - rl = z := ⟨_, rfl⟩
                have uy : IntKind.i64.wrap (xK - rl) = y := by rw [hy]; exact wrapI (by omega) (by omega)
                obtain ⟨t1, ht1⟩ : ∃ z, t + rl = z := ⟨_, rfl⟩
                have ut : IntKind.i64.wrap (t + rl) = t1 := by rw [ht1]; exact wrapI (by omega) (by omega)
                rw [hy, ht1] at hHo'
                obtain ⟨rw1, gw1⟩ := World.ownsRow.stored hrow7 K (.int .i64 y)
                rw [flatL_set] at rw1
                have g2 : G (fun b => b = gv) w7 (w7.setCell ⟨gv, K, none⟩ (.int .i64 y)) := G.setCell (S := fun b => b = gv) (p := ⟨gv, K, none⟩) (G.refl _ w7) (.inl rfl) (.int .i64 y)
                have ht7 := c.top hs7
                have hs8 := c.on hs7 g2.size (fun b h1 h2 => g2.block b (by omega) (fun hb => by omega))
                have q8 := g2.b q7 (fun b hb => by subst hb; exact hgw)
                have HJ0 := Lib.hid (And.intro (show RowJ (w7.setCell ⟨gv, K, none⟩ (.int .i64 y)) gv gv NW (V.set K y) from rw1) (And.intro hWl' (And.intro (hWB'.more (N := 21000000000 + 2000000000 * ((i : Int) + 1)) (by omega)) (And.intro hHo' (And.intro hs8 q8)))))
                clear rw1 gw1 g2 ht7 hs8 q8 q7 hs7 g7 hWl' hWB' hHo' hsK hrow7 hoK hoT bdK hpo hU0 hu0 hre hmm0 hmm1 hrl0 hd1 hs1' hf2 hf3 hmm hy ht1 hxK r2 ob7 hok hgK
                go_wp2_with fail
                generalize drawW W (K : Int) wv ev = W1 at *
                generalize drawT W T (K : Int) wv ev = T1 at *
                generalize V.set K y = V1 at *
                generalize (w7.setCell ⟨gv, K, none⟩ (.int .i64 y)) = WW at *
                have HJ := HJ0
                clear HJ0 r3 r4 a0 a1 a2 a3
                obtain ⟨wo, rfl⟩ : ∃ wo : World, wo = WW := ⟨_, rfl⟩
                go_loopw [30] (fun jv wr => ∃ j : Nat, j ≤ NW ∧ jv = .int .i64 j ∧ B wo wr) (fun jv _ => NW + 1 - (intOf jv).toNat)
                case atStart => exact ⟨0, Nat.zero_le _, rfl, B.refl _⟩
                case round =>
                  obtain ⟨j, hj, rfl, g⟩ := hrel
                  obtain ⟨wl2, rfl⟩ : ∃ wl2 : World, wl2 = wr := ⟨_, rfl⟩
                  have hs9 := c.keepB HJ.out.2.2.2.2.1 g
                  by_cases hjl : j < NW
                  · have hjB : decide ((j : Int) < (NW : Int)) = true := decide_eq_true (by omega)
                    have hjN : decide (j < NW) = true := decide_eq_true hjl
                    have hjI : (j : Int) < (NW : Int) := by omega
                    have hj0 : (0 : Int) ≤ (j : Int) := by omega
                    have wj1 : IntKind.i64.wrap ((j : Int) + 1) = (j : Int) + 1 := wrapI (by omega) (by omega)
                    have hsj : hasS W1 (j : Int) = true := by have := HJ.out.2.1; unfold hasS; simp only [Bool.and_eq_true, decide_eq_true_eq]; omega
                    obtain ⟨_, _, hgj⟩ := hasS_ix hsj
                    rw [show ((j : Int)).toNat = j by omega] at hgj
                    have hrow9 := HJ.out.1.keep g
                    have hat := hrow9.at_ hjl
                    have hoj := HJ.out.2.2.2.1.at_ _ _ _ hgj hat.2.1
                    have cA := c.at_ wl2 lo1 hi1 _ W1 T1 (j : Int) hs9 (by unfold I64; omega) (by have := HJ.out.2.1; omega)
                    rw [hsj, show atS W1 (j : Int) = getS W1 (j : Int) by unfold atS; rw [if_pos hsj]] at cA
                    generalize getS W1 (j : Int) = Y at *
                    obtain ⟨y0, y1⟩ := Y
                    generalize V1.getD j 0 = xj at *
                    simp only at cA hoj
                    have o1 : decide (xj < y0) = false := decide_eq_false (by omega)
                    have o2 : decide (y1 < xj) = false := decide_eq_false (by omega)
                    have hcj := hat.2.2.1
                    have HG := Lib.hid (And.intro hjl (And.intro hrow9 g))
                    clear hat hoj hgj hsj hrow9 hs9 g hjl hj
                    go_wp2_with fail
                    refine cA.mono ?_
                    rintro e1 w11 ⟨rfl, q11⟩
                    replace hcj := q11.keep hcj
                    clear cA
                    go_wp2_with fail
                    have qx : B w11 (w11.alloc (.cells #[.int .i64 y0, .int .i64 y1] 38)) := (B.refl _).alloc _ _
                    have ob3 := obj_new w11 (.cells #[.int .i64 y0, .int .i64 y1] 38)
                    replace hcj := qx.keep hcj
                    replace q11 := q11.trans qx
                    clear qx
                    generalize w11.alloc (.cells #[.int .i64 y0, .int .i64 y1] 38) = w12 at *
                    generalize w11.heap.size = b31 at *
                    have r0 := obj_cell ob3 0
                    have r1 := obj_cell ob3 1
                    go_quiet (fail)
                    go_wp2
                    go_roundw
                    case rel => exact ⟨j + 1, Nat.succ_le_of_lt HG.out.1, by go_num, HG.out.2.2.trans (q11.trans ((B.refl _).drewN _))⟩
                    case measure => have := HG.out.1; simp [intOf]; omega
                  · have hjB : decide ((j : Int) < (NW : Int)) = false := decide_eq_false (by omega)
                    have hjN : decide (j < NW) = false := decide_eq_false hjl
                    have cT := c.tip wl2 lo1 hi1 _ W1 T1 hs9
                    have hot := HJ.out.2.2.2.1.tip
                    have HT := Lib.hid (show W1.length = NW ∧ WB W1 T1 (21000000000 + 2000000000 * ((i : Int) + 1)) ∧ Holds W1 T1 V1 t1 from ⟨HJ.out.2.1, HJ.out.2.2.1, HJ.out.2.2.2.1⟩)
                    have HG := Lib.hid (And.intro (HJ.out.1.keep g) (And.intro hs9 (HJ.out.2.2.2.2.2.trans g)))
                    generalize hT1 : T1 = TT at *
                    obtain ⟨p0, p1⟩ := TT
                    simp only at cT hot
                    have o1 : decide (t1 < p0) = false := decide_eq_false (by omega)
                    have o2 : decide (p1 < t1) = false := decide_eq_false (by omega)
                    clear hot HJ hs9 g hjl hj
                    go_wp2_with fail
                    refine cT.mono ?_
                    rintro e1 w13 ⟨rfl, q13⟩
                    have qy : B w13 (w13.alloc (.cells #[.int .i64 p0, .int .i64 p1] 38)) := (B.refl _).alloc _ _
                    have qz := q13.trans qy
                    clear cT qy
                    go_wp2
                    go_roundw
                    case rel => exact ⟨i + 1, V1, t1, W1, (p0, p1), HB.out.2.1, rfl, by go_num, HG.out.1.keep qz, HT.out.1, HT.out.2.1, HT.out.2.2, c.keepB HG.out.2.1 qz, HG.out.2.2.trans qz⟩
                    case measure => have := HB.out.2.1; simp [intOf]; omega
        · have hlB : decide ((i : Int) < (an : Int)) = false := decide_eq_false (by omega)
          have hlN : decide (i < an) = false := decide_eq_false hl
          clear hHo hs hrow
          go_wp2
          go_ret
          exact ⟨rfl, q⟩
end Go.Proofs.Ytkhaephmpifcmaa

namespace Go.Proofs.Ytkhaephmpifcmaa
open Go.RowKit
theorem tracksums_ok (a b g h : Int) (lv : Value) (ll : List Nat) (i v e : Int) (ha : (Lit.int .u8 a).wf = true) (hb : (Lit.int .u8 b).wf = true) (hg : (Lit.int .u8 g).wf = true) (hh : (Lit.int .u8 h).wf = true) (hi : (Lit.int .u8 i).wf = true) (hv : (Lit.int .u16 v).wf = true) (he : (Lit.int .u16 e).wf = true) (w : World) (hU : IsU32s w lv ll) :
    Calls Try.prog 5 #[.int .u8 a, .int .u8 b, .int .u8 g, .int .u8 h, lv, .int .u8 i, .int .u16 v, .int .u16 e] w fun e w' => e = .returned (.bool true) ∧ B w w' :=
  tsums_law trk_code drop_code a b g h lv ll i v e ha hb hg hh hi hv he w hU
theorem trackempty_ok (v e k : Int) (hv : (Lit.int .u32 v).wf = true) (he : (Lit.int .u16 e).wf = true) (hk : (Lit.int .u8 k).wf = true) (w : World) :
    Calls Try.prog 6 #[.int .u32 v, .int .u16 e, .int .u8 k] w fun e w' => e = .returned (.bool true) ∧ B w w' :=
  empty17_law trk_code drop_code v e k hv he hk w
theorem trackplays_ok (a b g h : Int) (lv : Value) (ll : List Nat) (av : Value) (al : List Act7) (ha : (Lit.int .u8 a).wf = true) (hb : (Lit.int .u8 b).wf = true) (hg : (Lit.int .u8 g).wf = true) (hh : (Lit.int .u8 h).wf = true) (w : World) (hU : IsU32s w lv ll) (hAc : IsActs w av al) :
    Calls Try.prog 3 #[.int .u8 a, .int .u8 b, .int .u8 g, .int .u8 h, lv, av] w fun e w' => e = .returned (.bool true) ∧ B w w' :=
  plays17_law trk_code drop_code clone_code a b g h lv ll av al ha hb hg hh w hU hAc
theorem trackholds_ok (a b g h : Int) (lv : Value) (ll : List Nat) (av : Value) (al : List Act7) (n : Int) (ha : (Lit.int .u8 a).wf = true) (hb : (Lit.int .u8 b).wf = true) (hg : (Lit.int .u8 g).wf = true) (hh : (Lit.int .u8 h).wf = true) (hn : (Lit.int .u32 n).wf = true) (w : World) (hU : IsU32s w lv ll) (hAc : IsActs w av al) :
    Calls Try.prog 4 #[.int .u8 a, .int .u8 b, .int .u8 g, .int .u8 h, lv, av, .int .u32 n] w fun e w' => e = .returned (.bool true) ∧ B w w' :=
  holds17_law trk_code drop_code a b g h lv ll av al n ha hb hg hh hn w hU hAc
end Go.Proofs.Ytkhaephmpifcmaa

namespace Go.Proofs.Ytkhaephmpifcmaa
open Go.RowKit Go.ChangeShapes Go.WideShapes Go.ChangeAt Go.Deep
set_option linter.unusedVariables false
instance : Inhabited Act7 := ⟨⟨0, 0, 0, 0⟩⟩
def Act7.cells (z : Act7) : List Value := [.int .u8 z.k, .int .i64 z.i, .int .i64 z.v, .int .i64 z.e]
def Act7.ok (z : Act7) : Prop := (0 ≤ z.k ∧ z.k ≤ 255) ∧ I64 z.i ∧ I64 z.v ∧ I64 z.e
theorem u8_a {a : Int} (w : (Lit.int .u8 a).wf = true) : 0 ≤ a ∧ a ≤ 255 := by
  simp [Lit.wf, IntKind.min, IntKind.max, IntKind.signed, IntKind.bits] at w
  omega
set_option maxRecDepth 100000 in
theorem act_open {H : Type} {enc : TypeId × Value → H} {W : World} {base : Nat} {sp : Nat → Bool} {held : Bool} {fuel : Nat} {cs : List Value} {x : DataW H × List MemPlace}
    (h : DataW.trod enc Try.prog W base sp held fuel 34 cs = some x) : ∃ s : Act7, s.ok ∧ cs = s.cells := by
  obtain ⟨xs, n, _, _, hl, hlen, hf⟩ := DataW.trod_struct Try.underlying34 h
  rw [show Try.prog.cellsOf 34 = 4 by kernel_rfl] at hl
  have c1 : Try.prog.cellsOf 5 = 1 := by kernel_rfl
  have c2 : Try.prog.cellsOf 3 = 1 := by kernel_rfl
  have c3 : Try.prog.cellsOf 2 = 1 := by kernel_rfl
  match xs, hlen, cs, hl with
  | [x0, x1, x2, x3], _, [v0, v1, v2, v3], _ =>
    have f0 : DataW.trod enc Try.prog W base sp held n 5 (([v0, v1, v2, v3].drop 0).take (Try.prog.cellsOf 5)) = some x0 := hf 0 _ rfl
    have f1 : DataW.trod enc Try.prog W base sp held n 3 (([v0, v1, v2, v3].drop 1).take (Try.prog.cellsOf 3)) = some x1 := hf 1 _ rfl
    have f2 : DataW.trod enc Try.prog W base sp held n 2 (([v0, v1, v2, v3].drop 2).take (Try.prog.cellsOf 2)) = some x2 := hf 2 _ rfl
    have f3 : DataW.trod enc Try.prog W base sp held n 2 (([v0, v1, v2, v3].drop 3).take (Try.prog.cellsOf 2)) = some x3 := hf 3 _ rfl
    rw [c1] at f0
    rw [c2] at f1
    rw [c3] at f2 f3
    obtain ⟨a0, e0, _, w0⟩ := DataW.trod_int Try.underlying5 f0
    obtain ⟨a1, e1, _, w1⟩ := DataW.trod_int Try.underlying3 f1
    obtain ⟨a2, e2, _, w2⟩ := DataW.trod_int Try.underlying2 f2
    obtain ⟨a3, e3, _, w3⟩ := DataW.trod_int Try.underlying2 f3
    simp at e0 e1 e2 e3
    subst e0 e1 e2 e3
    exact ⟨⟨a0, a1, a2, a3⟩, ⟨u8_a w0, i64_wf w1, i64_wf w2, i64_wf w3⟩, rfl⟩
set_option maxRecDepth 100000 in
theorem open_acts {H : Type} {enc : TypeId × Value → H} {W : World} {base b0 : Nat} {sp : Nat → Bool} {held : Bool} {r : Reach} {v : Value} {d : DataW H} {p : List MemPlace}
    (hv : Value.okWide Try.prog W r b0 23 v) (h : DataW.Trod enc Try.prog W base sp held 23 v d p) : ∃ l, IsActs W v l := by
  obtain ⟨o, len, cap, rfl⟩ := okWide_slice Try.underlying23 hv
  obtain ⟨fuel, hf⟩ := h
  rcases open_slice Try.underlying23 hf with ⟨hcs, _⟩ | ⟨a, ln, cp, m, n, D, Pl, hcs, _, hl, hm, hmm, _, hx⟩
  · simp [Value.cells] at hcs
    obtain ⟨rfl, rfl, rfl⟩ := hcs
    exact ⟨[], .inl ⟨rfl, rfl⟩⟩
  · simp [Value.cells] at hcs
    obtain ⟨rfl, rfl, rfl⟩ := hcs
    rw [show Try.prog.cellsOf 34 = 4 by kernel_rfl] at hx
    have hle : len ≤ m := by rw [hmm]; split <;> omega
    obtain ⟨S, hS⟩ := choose_lt (α := Act7) (n := len) (p := fun i s => s.ok ∧ ∀ j, j < 4 → W.cell? ((a.add (i * 4)).add j) = s.cells[j]?) (fun i hi => by
      obtain ⟨cs', h1, h2⟩ := hx i (by omega)
      obtain ⟨s, hI, rfl⟩ := act_open h2
      obtain ⟨_, _, h3⟩ := World.cells?_some h1
      exact ⟨s, hI, h3⟩)
    refine ⟨(List.range len).map S, .inr ⟨a, cap, by simp, by simpa using hl, hm, fun i s hs => ?_⟩⟩
    have hi : i < len := by
      have := (List.getElem?_eq_some_iff.1 hs).1
      simpa using this
    have e : s = S i := by
      rw [List.getElem?_map, List.getElem?_range hi] at hs
      simpa using hs.symm
    subst e
    obtain ⟨hI, hc⟩ := hS i hi
    have hq : (a.add (i * 4)).spot = none := by
      have := hc 0 (by omega)
      cases hsp : (a.add (i * 4)).spot with
      | none => rfl
      | some x =>
        unfold World.cell? at this
        split at this
        · simp [Addr.add] at hsp this
          simp [hsp, Act7.cells] at this
        · simp [Act7.cells] at this
    generalize a.add (i * 4) = q at *
    have g0 := hc 0 (by omega)
    have g1 := hc 1 (by omega)
    have g2 := hc 2 (by omega)
    have g3 := hc 3 (by omega)
    simp [Addr.add, Act7.cells] at g0 g1 g2 g3
    exact ⟨g0, g1, g2, g3, hq, hI⟩
end Go.Proofs.Ytkhaephmpifcmaa
