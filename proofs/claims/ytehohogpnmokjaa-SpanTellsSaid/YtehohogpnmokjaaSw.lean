/-
  Contracts of layer 2's spans: which are right, what is one of them, joins, least; the same of the document's own.
-/
import Derived.Test.YtehohogpnmokjaaChecked
import Derived.Test.YtehohogpnmokjaaW
import Derived.Test.YtehohogpnmokjaaSm
import Derived.Deep.RegionHeld3
import Derived.Deep.QuietTactic
import Derived.BigQuiet
import Derived.KernelRfl
import Derived.Test.YtehohogpnmokjaaReg
namespace Go.Proofs.Ytehohogpnmokjaa
open Go.RowKit

theorem right_any (l h : Int) (w : World) :
    Calls Try.prog 15 #[.agg #[.int .i64 l, .int .i64 h]] w fun e w' => e = .returned (.bool (decide (l ≤ h))) ∧ Q w w' := by
  go_enter Try.func15, Try.ntmps15
  go_wp2
  go_ret
  exact ⟨rfl, (Q.refl w).alloc _ _⟩

theorem rright_any (l h : Int) (w : World) :
    Calls Try.prog 16 #[.agg #[.int .i64 l, .int .i64 h]] w fun e w' => e = .returned (.bool (decide (l ≤ h))) ∧ Q w w' := by
  go_enter Try.func16, Try.ntmps16
  go_wp2
  go_ret
  exact ⟨rfl, (Q.refl w).alloc _ _⟩

theorem dist_any (a b : Int) (w : World) :
    Calls Try.prog 28 #[.int .i64 a, .int .i64 b] w fun e w' => e = .returned (.int .u64 (dst a b)) ∧ w = w' := by
  go_enter Try.func28, Try.ntmps28
  go_wp2
  go_ret
  exact ⟨rfl, rfl⟩

theorem rhas_any (l h v : Int) (w : World) :
    Calls Try.prog 18 #[.agg #[.int .i64 l, .int .i64 h], .int .i64 v] w fun e w' => e = .returned (.bool (decide (l ≤ v) && decide (v ≤ h))) ∧ Q w w' := by
  have hb : decide (l ≤ v) = true ∨ decide (l ≤ v) = false := by cases decide (l ≤ v) <;> simp
  rcases hb with hb | hb
  · rw [hb, Bool.true_and]
    go_enter Try.func18, Try.ntmps18
    go_wp2
    go_ret
    exact ⟨rfl, (Q.refl w).alloc _ _⟩
  · rw [hb, Bool.false_and]
    go_enter Try.func18, Try.ntmps18
    go_wp2
    go_ret
    exact ⟨rfl, (Q.refl w).alloc _ _⟩

set_option maxHeartbeats 1000000 in
theorem has_no (l h v : Int) (r : ¬ l ≤ h) (w : World) :
    Calls Try.prog 17 #[.agg #[.int .i64 l, .int .i64 h], .int .i64 v] w fun e w' => e = .returned (.bool (decide (l ≤ v) && decide (v ≤ h))) ∧ Q w w' := by
  have c0 := fun w => right_any l h w
  rw [decide_eq_false r] at c0
  have e : (decide (l ≤ v) && decide (v ≤ h)) = false := by rw [← Bool.decide_and]; exact decide_eq_false (by omega)
  rw [e]
  clear e r
  go_enter Try.func17, Try.ntmps17
  go_wp2_with fail
  refine wp_region_noPanic ?_
  refine wp_region_seq (S := fun w' => w'.cell? ⟨w.heap.size, 0, none⟩ = some (.int .i64 l) ∧ w'.cell? ⟨w.heap.size, 1, none⟩ = some (.int .i64 h) ∧ Q w w') [(0, 0), (1, 2), (2, 0), (3, 1), (4, 1), (5, 1), (6, 1), (7, 1), (8, 1), (9, 1), (10, 1), (11, 1), (12, 1), (13, 0), (14, 0)] [0, 1, 2, 4, 12, 4, 52, 4, 132, 4, 516, 1348, 2116, 4100, 16383] [0, 1, 2, 4, 12, 4, 52, 4, 132, 4, 516, 1284, 2116, 4100, 8192] (by kernel_rfl) (by kernel_rfl) (fun _ _ _ _ _ h => h) ?_ (fun hH => ?_)
  · exact ⟨by simp [go_sem], by simp [go_sem], ((Q.refl w).alloc _ _).drew⟩
  refine wpSeq_take (d := 5) (v := ?_) rfl rfl (by kernel_rfl) (fun w hS => ?_) ?_
  rotate_left
  · go_simp <;> with_reducible rfl
  dsimp only [List.set_cons_zero, List.set_cons_succ]
  refine wpSeq_call rfl (by kernel_rfl) (fun K hK => ?_)
  go_simp
  (with_reducible refine (c0 _).mono ?_)
  rintro e w' ⟨rfl, hq⟩
  refine hK.out _ _ ?_ (fun hH => ?_)
  · exact ⟨hq.keep hH.1, hq.keep hH.2.1, hH.2.2.trans hq⟩
  clear hK
  refine wpSeq_take (d := 7) (v := ?_) rfl rfl (by kernel_rfl) (fun w hS => ?_) ?_
  rotate_left
  · go_simp <;> with_reducible rfl
  dsimp only [List.set_cons_zero, List.set_cons_succ]
  refine wpSeq_skip (d := 8) rfl rfl (by kernel_rfl) (by rfl) ?_
  refine wpSeq_skip (d := 9) rfl rfl (by kernel_rfl) (by rfl) ?_
  refine wpSeq_skip (d := 10) rfl rfl (by kernel_rfl) (by rfl) ?_
  refine wpSeq_skip (d := 11) rfl rfl (by kernel_rfl) (by rfl) ?_
  refine wpSeq_skip (d := 12) rfl rfl (by kernel_rfl) (by rfl) ?_
  refine wpSeq_skip (d := 13) rfl rfl (by kernel_rfl) (by rfl) ?_
  refine wpSeq_skip (d := 14) rfl rfl (by kernel_rfl) (by rfl) ?_
  refine wpSeq_skip (d := 15) rfl rfl (by kernel_rfl) (by rfl) ?_
  refine wpSeq_skip (d := 16) rfl rfl (by kernel_rfl) (by rfl) ?_
  refine wpSeq_skip (d := 17) rfl rfl (by kernel_rfl) (by rfl) ?_
  refine wpSeq_take (d := 18) (v := ?_) rfl rfl (by kernel_rfl) (fun w hS => ?_) ?_
  rotate_left
  · go_simp <;> with_reducible rfl
  dsimp only [List.set_cons_zero, List.set_cons_succ]
  refine wpSeq_take (d := 4) (v := ?_) rfl rfl (by kernel_rfl) (fun w hS => ?_) ?_
  rotate_left
  · go_simp <;> with_reducible rfl
  dsimp only [List.set_cons_zero, List.set_cons_succ]
  refine wpSeq_done ?_
  refine NoPanic.normal ?_
  go_wp2
  go_ret
  exact ⟨rfl, hH.2.2⟩

set_option maxHeartbeats 1000000 in
theorem has_any (l h v : Int) (hl : I64 l) (hh : I64 h) (hv : I64 v) (w : World) :
    Calls Try.prog 17 #[.agg #[.int .i64 l, .int .i64 h], .int .i64 v] w fun e w' => e = .returned (.bool (decide (l ≤ v) && decide (v ≤ h))) ∧ Q w w' := by
  by_cases r : l ≤ h
  · have c0 := fun w => right_any l h w
    rw [decide_eq_true r] at c0
    rw [← dst_le hl hh hv r]
    clear r hl hh hv
    go_enter Try.func17, Try.ntmps17
    go_wp2_with fail
    go_region_held3 (fun w' => w'.cell? ⟨w.heap.size, 0, none⟩ = some (.int .i64 l) ∧ w'.cell? ⟨w.heap.size, 1, none⟩ = some (.int .i64 h) ∧ Q w w')
      (first
        | (exact ⟨by simp [go_sem], by simp [go_sem], ((Q.refl w).alloc _ _).drew⟩)
        | (go_split_ands; exact ⟨Q.keep (by assumption) (by assumption), Q.keep (by assumption) (by assumption), Q.trans (by assumption) (by assumption)⟩)
        | (go_split_ands; exact ⟨by assumption, by assumption, by assumption⟩))
      (first
        | (go_at_call 15; (with_reducible refine (c0 _).mono ?_); rintro e w' ⟨rfl, hq⟩)
        | (go_at_call 28; (with_reducible refine (dist_any _ _ _).mono ?_); rintro e w' ⟨rfl, rfl⟩))
    go_wp2
    go_ret
    exact ⟨rfl, by go_split_ands; assumption⟩
  · exact has_no l h v r w

theorem join_any (al ah bl bh : Int) (w : World) :
    Calls Try.prog 19 #[.agg #[.int .i64 al, .int .i64 ah], .agg #[.int .i64 bl, .int .i64 bh]] w fun e w' => e = .returned (.agg #[.int .i64 (min al bl), .int .i64 (max ah bh)]) ∧ Q w w' := by
  by_cases c : al ≤ bl <;> by_cases d : bh ≤ ah
  · rw [show min al bl = al by omega, show max ah bh = ah by omega]
    go_enter Try.func19, Try.ntmps19
    go_wp2
    exact bodyPost_ret (v := .agg #[.int .i64 al, .int .i64 ah]) (by simp [results, Try.results19, go_sem]) rfl ⟨rfl, (((Q.refl w).alloc _ _).alloc _ _).alloc _ _⟩
  · rw [show min al bl = al by omega, show max ah bh = bh by omega]
    go_enter Try.func19, Try.ntmps19
    go_wp2
    exact bodyPost_ret (v := .agg #[.int .i64 al, .int .i64 bh]) (by simp [results, Try.results19, go_sem]) rfl ⟨rfl, (((Q.refl w).alloc _ _).alloc _ _).alloc _ _⟩
  · rw [show min al bl = bl by omega, show max ah bh = ah by omega]
    go_enter Try.func19, Try.ntmps19
    go_wp2
    exact bodyPost_ret (v := .agg #[.int .i64 bl, .int .i64 ah]) (by simp [results, Try.results19, go_sem]) rfl ⟨rfl, (((Q.refl w).alloc _ _).alloc _ _).alloc _ _⟩
  · rw [show min al bl = bl by omega, show max ah bh = bh by omega]
    go_enter Try.func19, Try.ntmps19
    go_wp2
    exact bodyPost_ret (v := .agg #[.int .i64 bl, .int .i64 bh]) (by simp [results, Try.results19, go_sem]) rfl ⟨rfl, (((Q.refl w).alloc _ _).alloc _ _).alloc _ _⟩

theorem rjoin_any (al ah bl bh : Int) (w : World) :
    Calls Try.prog 20 #[.agg #[.int .i64 al, .int .i64 ah], .agg #[.int .i64 bl, .int .i64 bh]] w fun e w' => e = .returned (.agg #[.int .i64 (min al bl), .int .i64 (max ah bh)]) ∧ Q w w' := by
  by_cases c : al ≤ bl <;> by_cases d : bh ≤ ah
  · rw [show min al bl = al by omega, show max ah bh = ah by omega]
    go_enter Try.func20, Try.ntmps20
    go_wp2
    exact bodyPost_ret (v := .agg #[.int .i64 al, .int .i64 ah]) (by simp [results, Try.results20, go_sem]) rfl ⟨rfl, (((Q.refl w).alloc _ _).alloc _ _).alloc _ _⟩
  · rw [show min al bl = al by omega, show max ah bh = bh by omega]
    go_enter Try.func20, Try.ntmps20
    go_wp2
    exact bodyPost_ret (v := .agg #[.int .i64 al, .int .i64 bh]) (by simp [results, Try.results20, go_sem]) rfl ⟨rfl, (((Q.refl w).alloc _ _).alloc _ _).alloc _ _⟩
  · rw [show min al bl = bl by omega, show max ah bh = ah by omega]
    go_enter Try.func20, Try.ntmps20
    go_wp2
    exact bodyPost_ret (v := .agg #[.int .i64 bl, .int .i64 ah]) (by simp [results, Try.results20, go_sem]) rfl ⟨rfl, (((Q.refl w).alloc _ _).alloc _ _).alloc _ _⟩
  · rw [show min al bl = bl by omega, show max ah bh = bh by omega]
    go_enter Try.func20, Try.ntmps20
    go_wp2
    exact bodyPost_ret (v := .agg #[.int .i64 bl, .int .i64 bh]) (by simp [results, Try.results20, go_sem]) rfl ⟨rfl, (((Q.refl w).alloc _ _).alloc _ _).alloc _ _⟩

theorem least_any (sl sh v : Int) (w : World) :
    Calls Try.prog 21 #[.agg #[.int .i64 sl, .int .i64 sh], .int .i64 v] w fun e w' => e = .returned (.agg #[.int .i64 (max sl v), .int .i64 (max sh v)]) ∧ Q w w' := by
  by_cases c : v ≤ sl <;> by_cases d : v ≤ sh
  · rw [show max sl v = sl by omega, show max sh v = sh by omega]
    go_enter Try.func21, Try.ntmps21
    go_wp2
    exact bodyPost_ret (v := .agg #[.int .i64 sl, .int .i64 sh]) (by simp [results, Try.results21, go_sem]) rfl ⟨rfl, ((Q.refl w).alloc _ _).alloc _ _⟩
  · rw [show max sl v = sl by omega, show max sh v = v by omega]
    go_enter Try.func21, Try.ntmps21
    go_wp2
    exact bodyPost_ret (v := .agg #[.int .i64 sl, .int .i64 v]) (by simp [results, Try.results21, go_sem]) rfl ⟨rfl, ((Q.refl w).alloc _ _).alloc _ _⟩
  · rw [show max sl v = v by omega, show max sh v = sh by omega]
    go_enter Try.func21, Try.ntmps21
    go_wp2
    exact bodyPost_ret (v := .agg #[.int .i64 v, .int .i64 sh]) (by simp [results, Try.results21, go_sem]) rfl ⟨rfl, ((Q.refl w).alloc _ _).alloc _ _⟩
  · rw [show max sl v = v by omega, show max sh v = v by omega]
    go_enter Try.func21, Try.ntmps21
    go_wp2
    exact bodyPost_ret (v := .agg #[.int .i64 v, .int .i64 v]) (by simp [results, Try.results21, go_sem]) rfl ⟨rfl, ((Q.refl w).alloc _ _).alloc _ _⟩

theorem rleast_any (sl sh v : Int) (w : World) :
    Calls Try.prog 22 #[.agg #[.int .i64 sl, .int .i64 sh], .int .i64 v] w fun e w' => e = .returned (.agg #[.int .i64 (max sl v), .int .i64 (max sh v)]) ∧ Q w w' := by
  by_cases c : v ≤ sl <;> by_cases d : v ≤ sh
  · rw [show max sl v = sl by omega, show max sh v = sh by omega]
    go_enter Try.func22, Try.ntmps22
    go_wp2
    exact bodyPost_ret (v := .agg #[.int .i64 sl, .int .i64 sh]) (by simp [results, Try.results22, go_sem]) rfl ⟨rfl, ((Q.refl w).alloc _ _).alloc _ _⟩
  · rw [show max sl v = sl by omega, show max sh v = v by omega]
    go_enter Try.func22, Try.ntmps22
    go_wp2
    exact bodyPost_ret (v := .agg #[.int .i64 sl, .int .i64 v]) (by simp [results, Try.results22, go_sem]) rfl ⟨rfl, ((Q.refl w).alloc _ _).alloc _ _⟩
  · rw [show max sl v = v by omega, show max sh v = sh by omega]
    go_enter Try.func22, Try.ntmps22
    go_wp2
    exact bodyPost_ret (v := .agg #[.int .i64 v, .int .i64 sh]) (by simp [results, Try.results22, go_sem]) rfl ⟨rfl, ((Q.refl w).alloc _ _).alloc _ _⟩
  · rw [show max sl v = v by omega, show max sh v = v by omega]
    go_enter Try.func22, Try.ntmps22
    go_wp2
    exact bodyPost_ret (v := .agg #[.int .i64 v, .int .i64 v]) (by simp [results, Try.results22, go_sem]) rfl ⟨rfl, ((Q.refl w).alloc _ _).alloc _ _⟩

end Go.Proofs.Ytehohogpnmokjaa
