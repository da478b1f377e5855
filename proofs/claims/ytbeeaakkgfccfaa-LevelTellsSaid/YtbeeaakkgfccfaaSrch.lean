/-
  sort.Search at a function value of the caller's own, over any world that only grows: the first number of which it says yes; the code's own first.
-/
import Derived.Test.YtbeeaakkgfccfaaLvm
import Derived.Test.YtbeeaakkgfccfaaReg
import Derived.Deep.LoopGhost
import Derived.Shelf.Abstract
import Derived.Lib.Hide
import Derived.Lib.MinMax
namespace Go.Proofs.Ytbeeaakkgfccfaa
open Go.RowKit

set_option maxHeartbeats 2000000 in
theorem search_any (g : Nat) (cb : Array Value) (n : Nat) (p : Nat → Bool) (w : World) (eg : ∀ args w, (callFunc g args).run Try.prog w = .ok (.enter g args) w) (hsz : n < 4611686018427387904)
    (hf : ∀ i : Nat, i < n → ∀ w1, B w w1 → Calls Try.prog g (#[.int .i64 i] ++ cb) w1 fun e w2 => e = .returned (.bool (p i)) ∧ B w1 w2)
    (hmono : ∀ a b, a ≤ b → b < n → p a = true → p b = true) :
    Calls Try.prog 45 #[.int .i64 n, .func (.func g) #[] cb] w fun e w' => e = .returned (.int .i64 (firstIx n p)) ∧ B w w' := by
  have HF := Lib.hid hf
  have M := Lib.hid hmono
  have HX := Lib.hid (fun (i : Nat) h0 h1 h2 => @firstIx_is n p i h0 h1 h2)
  generalize firstIx n p = F at *
  clear hf hmono
  go_enter Try.func45, Try.ntmps45
  go_wp2
  go_loopw [5, 6] (fun s5 s6 wr => ∃ (lo hi : Nat), s5 = .int .i64 lo ∧ s6 = .int .i64 hi ∧ lo ≤ hi ∧ hi ≤ n ∧ B w wr ∧ RowKit.Hid ((∀ t, t < lo → p t = false) ∧ (∀ t, hi ≤ t → t < n → p t = true))) (fun s5 s6 _ => (intOf s6).toNat - (intOf s5).toNat)
  case atStart => exact ⟨0, n, rfl, rfl, Nat.zero_le _, Nat.le_refl _, B.refl _, Lib.hid ⟨fun t ht => absurd ht (Nat.not_lt_zero _), fun t h1 h2 => by omega⟩⟩
  case round =>
    obtain ⟨lo, hi, rfl, rfl, hlh, hin, hg, I⟩ := hrel
    by_cases hlt : lo < hi
    · have hc := HF.out ((lo + hi) / 2) (by omega) _ hg
      rw [show (((lo + hi) / 2 : Nat) : Int) = ((lo : Int) + (hi : Int)) / 2 by omega] at hc
      cases hp : p ((lo + hi) / 2) <;> rw [hp] at hc
      · have HP := Lib.hid hp
        clear hp
        go_wp2_with (go_at_fn g; refine hc.mono ?_; rintro e w' ⟨rfl, hq⟩)
        have g1 := B.trans hg ‹B _ _›
        go_roundw
        case measure => simp [intOf]; omega
        case rel =>
          refine ⟨(lo + hi) / 2 + 1, hi, by rw [show ((lo : Int) + (hi : Int)) / 2 + 1 = (((lo + hi) / 2 + 1 : Nat) : Int) by omega], rfl, by omega, hin, g1, ⟨fun t ht => ?_, I.out.2⟩⟩
          cases h : p t with
          | false => rfl
          | true => have := M.out t ((lo + hi) / 2) (by omega) (by omega) h; rw [HP.out] at this; cases this
      · have HP := Lib.hid hp
        clear hp
        go_wp2_with (go_at_fn g; refine hc.mono ?_; rintro e w' ⟨rfl, hq⟩)
        have g1 := B.trans hg ‹B _ _›
        go_roundw
        case measure => simp [intOf]; omega
        case rel => exact ⟨lo, (lo + hi) / 2, rfl, by rw [show ((lo : Int) + (hi : Int)) / 2 = (((lo + hi) / 2 : Nat) : Int) by omega], by omega, by omega, g1, ⟨I.out.1, fun t ht htn => M.out ((lo + hi) / 2) t ht htn HP.out⟩⟩
    · obtain rfl : hi = lo := by omega
      have HE := Lib.hid (HX.out hi hin I.out.1 (fun h => I.out.2 hi (Nat.le_refl _) h))
      clear HX
      go_wp2
      go_ret
      exact ⟨by rw [HE.out]; rfl, hg⟩

set_option maxHeartbeats 2000000 in
theorem first1_any (k : Nat) (fa ca : Array Value) (bh bx : Nat) (i x y : Int) (w : World) (ek : ∀ args w, (callFunc k args).run Try.prog w = .ok (.enter k args) w)
    (hch : w.cell? ⟨bh, 0, none⟩ = some (.func (.func k) fa ca)) (hcx : w.cell? ⟨bx, 0, none⟩ = some (.int .i64 x))
    (hf : ∀ w1, B w w1 → Calls Try.prog k (fa.push (.int .i64 i) ++ ca) w1 fun e w2 => e = .returned (.int .i64 y) ∧ B w1 w2) :
    Calls Try.prog 46 #[.int .i64 i, .pointer (some ⟨bh, 0, none⟩), .pointer (some ⟨bx, 0, none⟩)] w fun e w' => e = .returned (.bool (decide (x ≤ y))) ∧ B w w' := by
  have HF := Lib.hid hf
  clear hf
  go_enter Try.func46, Try.ntmps46
  go_wp2
  refine wp_region_noPanic ?_
  refine wp_region_seq (S := fun w' => w'.cell? ⟨bh, 0, none⟩ = some (.func (.func k) fa ca) ∧ w'.cell? ⟨bx, 0, none⟩ = some (.int .i64 x) ∧ B w w') [(0, 0), (1, 0), (3, 0), (2, 2), (4, 0), (5, 0)] [0, 0, 3, 0, 12, 31] [0, 0, 3, 0, 12, 16] (by kernel_rfl) (by kernel_rfl) (fun _ _ _ _ _ h => h) ?_ (fun hH => ?_)
  · exact ⟨(B.refl w).drew.keep hch, (B.refl w).drew.keep hcx, (B.refl w).drew⟩
  refine wpSeq_take (d := 5) (v := ?_) rfl rfl (by kernel_rfl) (fun w hS => ?_) ?_
  rotate_left
  · go_simp <;> with_reducible rfl
  dsimp only [List.set_cons_zero, List.set_cons_succ]
  refine wpSeq_take (d := 6) (v := ?_) rfl rfl (by kernel_rfl) (fun w hS => ?_) ?_
  rotate_left
  · go_simp <;> with_reducible rfl
  dsimp only [List.set_cons_zero, List.set_cons_succ]
  refine wpSeq_take (d := 8) (v := ?_) rfl rfl (by kernel_rfl) (fun w hS => ?_) ?_
  rotate_left
  · go_simp <;> with_reducible rfl
  dsimp only [List.set_cons_zero, List.set_cons_succ]
  refine wpSeq_call rfl (by kernel_rfl) (fun K hK => ?_)
  go_simp
  (with_reducible refine (HF.out _ hH.2.2).mono ?_)
  rintro e w' ⟨rfl, hq⟩
  refine hK.out _ _ ?_ (fun hH => ?_)
  · exact ⟨hq.keep hH.1, hq.keep hH.2.1, hH.2.2.trans hq⟩
  clear hK
  refine wpSeq_take (d := 9) (v := ?_) rfl rfl (by kernel_rfl) (fun w hS => ?_) ?_
  rotate_left
  · go_simp <;> with_reducible rfl
  dsimp only [List.set_cons_zero, List.set_cons_succ]
  refine wpSeq_take (d := 4) (v := ?_) rfl rfl (by kernel_rfl) (fun w hS => ?_) ?_
  rotate_left
  · go_simp <;> with_reducible rfl
  dsimp only [List.set_cons_zero, List.set_cons_succ]
  refine wpSeq_done ?_
  refine NoPanic.normal ?_
  obtain ⟨_, _, g⟩ := hH
  clear hch hcx
  go_wp2
  go_ret
  exact ⟨rfl, g⟩

set_option maxHeartbeats 2000000 in
theorem first_any (k : Nat) (fa ca : Array Value) (n : Nat) (t : Nat → Int) (x : Int) (w : World) (ek : ∀ args w, (callFunc k args).run Try.prog w = .ok (.enter k args) w) (hn : n < 1000000)
    (hf : ∀ i : Nat, i ≤ n → ∀ w1, B w w1 → Calls Try.prog k (fa.push (.int .i64 i) ++ ca) w1 fun e w2 => e = .returned (.int .i64 (t i)) ∧ B w1 w2)
    (hmono : ∀ a b, a ≤ b → b ≤ n → t a ≤ t b) :
    Calls Try.prog 28 #[.int .i64 n, .func (.func k) fa ca, .int .i64 x] w fun e w' => e = .returned (.int .i64 (firstIx (n + 1) (fun i => decide (x ≤ t i)))) ∧ B w w' := by
  obtain ⟨W0, hW0⟩ : ∃ W0, W0 = (w.alloc (.cells #[.func (.func k) fa ca] 59)).alloc (.cells #[.int .i64 x] 2) := ⟨_, rfl⟩
  have q0 : B w W0 := by rw [hW0]; exact ((B.refl w).alloc _ _).alloc _ _
  have c1 : W0.cell? ⟨w.heap.size, 0, none⟩ = some (.func (.func k) fa ca) := by rw [hW0]; simp [go_sem]
  have c2 : W0.cell? ⟨w.heap.size + 1, 0, none⟩ = some (.int .i64 x) := by rw [hW0]; simp [go_sem]
  have eg : ∀ args w, (callFunc 46 args).run Try.prog w = .ok (.enter 46 args) w := enters_of Try.func46 (by kernel_rfl) rfl
  have hS := search_any 46 #[.pointer (some ⟨w.heap.size, 0, none⟩), .pointer (some ⟨w.heap.size + 1, 0, none⟩)] (n + 1) (fun i => decide (x ≤ t i)) W0 eg (by omega)
    (fun i hi w1 h1 => first1_any k fa ca w.heap.size (w.heap.size + 1) i x (t i) w1 ek (h1.keep c1) (h1.keep c2) (fun w2 h2 => hf i (by omega) w2 ((q0.trans h1).trans h2)))
    (fun a b hab hb h => by have := hmono a b hab (by omega); simp only [decide_eq_true_eq] at h ⊢; omega)
  generalize firstIx (n + 1) (fun i => decide (x ≤ t i)) = F at *
  rw [show ((n + 1 : Nat) : Int) = (n : Int) + 1 by omega] at hS
  clear hf hmono c1 c2 eg ek
  have w1 : IntKind.i64.wrap ((n : Int) + 1) = (n : Int) + 1 := wrapI (by omega) (by omega)
  go_enter Try.func28, Try.ntmps28
  go_wp2_with fail
  rw [← hW0]
  refine hS.mono ?_
  rintro e w2 ⟨rfl, hq⟩
  go_wp2
  go_ret
  exact ⟨rfl, q0.trans hq⟩
end Go.Proofs.Ytbeeaakkgfccfaa
