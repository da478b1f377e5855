/-
  The document's own tables: how many slices; upper sums.
-/
import Derived.Test.YtkiepmfknbbeaaaR3ofs
namespace Go.Proofs.Ytkiepmfknbbeaaa
open Go.RowKit

theorem r3slices_any (p : Value) (L : List (Int × Int)) (hb : L.length ≤ 600) (w : World) (ht : RTab w p L) :
    Calls Try.prog 64 #[p] w fun e w' => e = .returned (.int .i64 L.length) ∧ w = w' := by
  obtain ⟨b, aL, cL, aH, cH, rfl, h1, h2, h3, h4⟩ := ht
  clear h2 h3 h4
  obtain ⟨N, hN⟩ : ∃ N, L.length = N := ⟨_, rfl⟩
  rw [hN] at h1 hb ⊢
  have w2 : IntKind.i64.wrap (N : Int) = (N : Int) := wrapI (by omega) (by omega)
  go_enter Try.func64, Try.ntmps64
  go_wp2
  go_ret
  exact ⟨rfl, rfl⟩
theorem r3near_any (p : Value) (L : List (Int × Int)) (hb : L.length ≤ 600) (i : Int) (w : World) (ht : RTab w p L) :
    Calls Try.prog 73 #[p, .int .i64 i] w fun e w' => e = .returned (.int .i64 (nearI L.length i : Int)) ∧ w = w' := by
  have c := r3slices_any p L hb w ht
  have e1 := nearI_eq L.length i
  obtain ⟨b, aL, cL, aH, cH, rfl, _⟩ := ht
  obtain ⟨m, e2⟩ : ∃ m, max i 0 = m := ⟨_, rfl⟩
  rw [e2] at e1
  generalize nearI L.length i = n at *
  go_enter Try.func73, Try.ntmps73
  go_wp2_with fail
  refine c.mono ?_
  rintro e w1 ⟨rfl, rfl⟩
  go_wp2
  go_ret
  exact ⟨rfl, rfl⟩

theorem r3high_any (p : Value) (L : List (Int × Int)) (hb : L.length ≤ 600) (i : Int) (w : World) (ht : RTab w p L) :
    Calls Try.prog 61 #[p, .int .i64 i] w fun e w' => e = .returned (.int .i64 (highT L (nearI L.length i))) ∧ Dr w w' := by
  have htt := ht
  obtain ⟨b, aL, cL, aH, cH, rfl, h1, h2, h3, h4⟩ := ht
  have c := fun w ht => r3near_any (.pointer (some ⟨b, 0, none⟩)) L hb i w ht
  have hn := nearI_le L.length i
  have hc := h2
  have hx := h4 _ hn
  have hnI : (nearI L.length i : Int) < (L.length : Int) + 1 := by omega
  clear h1 h2 h3 h4
  generalize highT L (nearI L.length i) = X at *
  generalize nearI L.length i = n at *
  obtain ⟨N, hN⟩ : ∃ N, L.length = N := ⟨_, rfl⟩
  rw [hN] at hc hn hnI
  go_enter Try.func61, Try.ntmps61
  go_wp2_with fail
  refine wp_region_noPanic ?_
  refine wp_region_seq (S := fun w' => w'.cell? ⟨b, 1, none⟩ = some (.slice (some aH) (N + 1) cH) ∧ w'.cell? (aH.add n) = some (.int .i64 X) ∧ RTab w' (.pointer (some ⟨b, 0, none⟩)) L ∧ Dr w w') [(0, 0), (1, 0), (2, 0), (3, 0), (4, 0), (5, 0), (6, 2), (7, 0), (8, 0), (9, 0)] [0, 1, 2, 4, 0, 0, 48, 72, 128, 511] [0, 1, 2, 4, 0, 0, 48, 72, 128, 256] (by kernel_rfl) (by kernel_rfl) (fun _ _ _ _ _ h => h) ?_ (fun hH => ?_)
  · exact ⟨by simp [go_sem, hc], by simp [go_sem, hx], htt.keepB (B.refl w).drew, ⟨1, rfl⟩⟩
  refine wpSeq_take (d := 5) (v := ?_) rfl rfl (by kernel_rfl) (fun w hS => ?_) ?_
  rotate_left
  · go_simp <;> with_reducible rfl
  dsimp only [List.set_cons_zero, List.set_cons_succ]
  refine wpSeq_take (d := 6) (v := ?_) rfl rfl (by kernel_rfl) (fun w hS => ?_) ?_
  rotate_left
  · go_simp <;> with_reducible rfl
  dsimp only [List.set_cons_zero, List.set_cons_succ]
  refine wpSeq_take (d := 7) (v := ?_) rfl rfl (by kernel_rfl) (fun w hS => ?_) ?_
  rotate_left
  · go_simp <;> with_reducible rfl
  dsimp only [List.set_cons_zero, List.set_cons_succ]
  refine wpSeq_take (d := 8) (v := ?_) rfl rfl (by kernel_rfl) (fun w hS => ?_) ?_
  rotate_left
  · go_simp <;> with_reducible rfl
  dsimp only [List.set_cons_zero, List.set_cons_succ]
  refine wpSeq_take (d := 9) (v := ?_) rfl rfl (by kernel_rfl) (fun w hS => ?_) ?_
  rotate_left
  · go_simp <;> with_reducible rfl
  dsimp only [List.set_cons_zero, List.set_cons_succ]
  refine wpSeq_take (d := 10) (v := ?_) rfl rfl (by kernel_rfl) (fun w hS => ?_) ?_
  rotate_left
  · go_simp <;> with_reducible rfl
  dsimp only [List.set_cons_zero, List.set_cons_succ]
  refine wpSeq_call rfl (by kernel_rfl) (fun K hK => ?_)
  go_simp
  (with_reducible refine (c _ hH.2.2.1).mono ?_)
  rintro e w' ⟨rfl, rfl⟩
  refine hK.out _ _ hH (fun hH => ?_)
  clear hK
  refine wpSeq_take (d := 12) (v := ?_) rfl rfl (by kernel_rfl) (fun w hS => ?_) ?_
  rotate_left
  · go_simp <;> with_reducible rfl
  dsimp only [List.set_cons_zero, List.set_cons_succ]
  refine wpSeq_take (d := 13) (v := ?_) rfl rfl (by kernel_rfl) (fun w hS => ?_) ?_
  rotate_left
  · go_simp <;> with_reducible rfl
  dsimp only [List.set_cons_zero, List.set_cons_succ]
  refine wpSeq_take (d := 4) (v := ?_) rfl rfl (by kernel_rfl) (fun w hS => ?_) ?_
  rotate_left
  · go_simp <;> with_reducible rfl
  dsimp only [List.set_cons_zero, List.set_cons_succ]
  refine wpSeq_done ?_
  refine NoPanic.normal ?_
  obtain ⟨_, _, _, hd⟩ := hH
  go_wp2
  go_ret
  exact ⟨rfl, hd⟩
end Go.Proofs.Ytkiepmfknbbeaaa
