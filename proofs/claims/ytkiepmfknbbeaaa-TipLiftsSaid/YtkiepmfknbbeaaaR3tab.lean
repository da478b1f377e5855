/-
  The document's own tables: what else they answer.
-/
import Derived.Test.YtkiepmfknbbeaaaR3tsh
namespace Go.Proofs.Ytkiepmfknbbeaaa
open Go.RowKit

theorem r3low_any (p : Value) (L : List (Int × Int)) (hb : L.length ≤ 600) (i : Int) (w : World) (ht : RTab w p L) :
    Calls Try.prog 62 #[p, .int .i64 i] w fun e w' => e = .returned (.int .i64 (lowT L (nearI L.length i))) ∧ Dr w w' := by
  have htt := ht
  obtain ⟨b, aL, cL, aH, cH, rfl, h1, h2, h3, h4⟩ := ht
  have c := fun w ht => r3near_any (.pointer (some ⟨b, 0, none⟩)) L hb i w ht
  have hn := nearI_le L.length i
  have hc := h1
  have hx := h3 _ hn
  have hnI : (nearI L.length i : Int) < (L.length : Int) + 1 := by omega
  clear h1 h2 h3 h4
  generalize lowT L (nearI L.length i) = X at *
  generalize nearI L.length i = n at *
  obtain ⟨N, hN⟩ : ∃ N, L.length = N := ⟨_, rfl⟩
  rw [hN] at hc hn hnI
  go_enter Try.func62, Try.ntmps62
  go_wp2_with fail
  refine wp_region_noPanic ?_
  refine wp_region_seq (S := fun w' => w'.cell? ⟨b, 0, none⟩ = some (.slice (some aL) (N + 1) cL) ∧ w'.cell? (aL.add n) = some (.int .i64 X) ∧ RTab w' (.pointer (some ⟨b, 0, none⟩)) L ∧ Dr w w') [(0, 0), (1, 0), (2, 0), (3, 0), (4, 0), (5, 0), (6, 2), (7, 0), (8, 0), (9, 0)] [0, 1, 2, 4, 0, 0, 48, 72, 128, 511] [0, 1, 2, 4, 0, 0, 48, 72, 128, 256] (by kernel_rfl) (by kernel_rfl) (fun _ _ _ _ _ h => h) ?_ (fun hH => ?_)
  · exact ⟨by simp [go_sem, hc], by simp [go_sem, hx], htt.keepB (B.refl w).drew, ⟨1, rfl⟩⟩
  refine wpSeq_take (d := 5) (v := ?_) rfl rfl (by kernel_rfl) (fun w hS => ?_) ?_
  rotate_left
  · go_simp <;> with_reducible rfl
  dsimp only [List.set_cons_zero, List.set_cons_succ]
  refine wpSeq_take (d := 6) (v := ?_) rfl rfl (by kernel_rfl) (fun w hS => ?_) ?_
  rotate_left
  · go_simp <;> with_reducible rfl
  dsimp only [List.set_cons_zero, List.set_cons_succ]
  refine wpSeq_take (d := 7) (v := ?_) rfl rfl (by kernel_rfl) (fun w hS => ?_) ?_
  rotate_left
  · go_simp <;> with_reducible rfl
  dsimp only [List.set_cons_zero, List.set_cons_succ]
  refine wpSeq_take (d := 8) (v := ?_) rfl rfl (by kernel_rfl) (fun w hS => ?_) ?_
  rotate_left
  · go_simp <;> with_reducible rfl
  dsimp only [List.set_cons_zero, List.set_cons_succ]
  refine wpSeq_take (d := 9) (v := ?_) rfl rfl (by kernel_rfl) (fun w hS => ?_) ?_
  rotate_left
  · go_simp <;> with_reducible rfl
  dsimp only [List.set_cons_zero, List.set_cons_succ]
  refine wpSeq_take (d := 10) (v := ?_) rfl rfl (by kernel_rfl) (fun w hS => ?_) ?_
  rotate_left
  · go_simp <;> with_reducible rfl
  dsimp only [List.set_cons_zero, List.set_cons_succ]
  refine wpSeq_call rfl (by kernel_rfl) (fun K hK => ?_)
  go_simp
  (with_reducible refine (c _ hH.2.2.1).mono ?_)
  rintro e w' ⟨rfl, rfl⟩
  refine hK.out _ _ hH (fun hH => ?_)
  clear hK
  refine wpSeq_take (d := 12) (v := ?_) rfl rfl (by kernel_rfl) (fun w hS => ?_) ?_
  rotate_left
  · go_simp <;> with_reducible rfl
  dsimp only [List.set_cons_zero, List.set_cons_succ]
  refine wpSeq_take (d := 13) (v := ?_) rfl rfl (by kernel_rfl) (fun w hS => ?_) ?_
  rotate_left
  · go_simp <;> with_reducible rfl
  dsimp only [List.set_cons_zero, List.set_cons_succ]
  refine wpSeq_take (d := 4) (v := ?_) rfl rfl (by kernel_rfl) (fun w hS => ?_) ?_
  rotate_left
  · go_simp <;> with_reducible rfl
  dsimp only [List.set_cons_zero, List.set_cons_succ]
  refine wpSeq_done ?_
  refine NoPanic.normal ?_
  obtain ⟨_, _, _, hd⟩ := hH
  go_wp2
  go_ret
  exact ⟨rfl, hd⟩

theorem r3true_any (p : Value) (L : List (Int × Int)) (hb : TBnd L) (i part : Int) (w : World) (ht : RTab w p L) :
    Calls Try.prog 65 #[p, .int .i64 i, .int .i64 part] w fun e w' => e = .returned (.int .i64 (trueM (lowT L (nearI L.length i)) (highT L (nearI L.length i)) (min (max part 0) 1000))) ∧ Dr w w' := by
  have cL := fun w ht => r3low_any p L hb.n i w ht
  have cH := fun w ht => r3high_any p L hb.n i w ht
  obtain ⟨b1, b2, b3⟩ := hb.at _ (nearI_le L.length i)
  have HT := Lib.hid ht
  obtain ⟨b, aL, cLL, aH, cHH, rfl, _⟩ := ht
  unfold trueM
  generalize lowT L (nearI L.length i) = lo at *
  generalize highT L (nearI L.length i) = hi' at *
  obtain ⟨m, e1⟩ : ∃ m, max part 0 = m := ⟨_, rfl⟩
  obtain ⟨q, e2⟩ : ∃ q, min m 1000 = q := ⟨_, rfl⟩
  rw [e1, e2]
  obtain ⟨d, e3⟩ : ∃ d, hi' - lo = d := ⟨_, rfl⟩
  have f1 : 0 ≤ d * q := Int.mul_nonneg (by omega) (by omega)
  have f2 : d * q ≤ 24000000000000 * 1000 := mul_le (by omega) (by omega) (by omega) (by omega)
  rw [e3]
  have w1 : IntKind.i64.wrap (hi' - lo) = d := by rw [e3]; exact wrapI (by omega) (by omega)
  have w1' : IntKind.i64.wrap d = d := wrapI (by omega) (by omega)
  have w2 : IntKind.i64.wrap (d * q) = d * q := wrapI (by omega) (by omega)
  have w3 : (d * q).tdiv 1000 = d * q / 1000 := Int.tdiv_eq_ediv_of_nonneg f1
  have w4 : IntKind.i64.wrap (d * q / 1000) = d * q / 1000 := wrapI (by omega) (by omega)
  have w5 : IntKind.i64.wrap (lo + d * q / 1000) = lo + d * q / 1000 := wrapI (by omega) (by omega)
  generalize d * q / 1000 = z at *
  clear f1 f2 b1 b2 b3 hb
  go_enter Try.func65, Try.ntmps65
  go_wp2_with fail
  refine (cL _ HT.out).mono ?_
  rintro e wA ⟨rfl, q1⟩
  have h1 := HT.out.keepB q1.q.b
  go_wp2_with fail
  refine (cH _ h1).mono ?_
  rintro e wB ⟨rfl, q2⟩
  replace h1 := h1.keepB q2.q.b
  go_wp2_with fail
  refine (cL _ h1).mono ?_
  rintro e wC ⟨rfl, q3⟩
  go_wp2
  go_ret
  exact ⟨rfl, (q1.trans q2).trans q3⟩
theorem r3tall_any (p : Value) (L : List (Int × Int)) (hb : L.length ≤ 600) (w : World) (ht : RTab w p L) :
    Calls Try.prog 60 #[p] w fun e w' => e = .returned (.int .i64 (L.length * 100)) ∧ w = w' := by
  have c := r3slices_any p L hb w ht
  obtain ⟨b, aL, cLL, aH, cHH, rfl, _⟩ := ht
  have w1 : IntKind.i64.wrap ((L.length : Int) * 100) = (L.length : Int) * 100 := wrapI (by omega) (by omega)
  have w2 : IntKind.i64.wrap (L.length : Int) = (L.length : Int) := wrapI (by omega) (by omega)
  go_enter Try.func60, Try.ntmps60
  go_wp2_with fail
  refine c.mono ?_
  rintro e w1 ⟨rfl, rfl⟩
  go_wp2
  go_ret
  exact ⟨rfl, rfl⟩
end Go.Proofs.Ytkiepmfknbbeaaa
