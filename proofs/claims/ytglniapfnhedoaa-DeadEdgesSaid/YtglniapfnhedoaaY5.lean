/-
  Layer 4: what the statements ask of the code's tables, but for the true sums; The code's tables do what the document says, but for the true sums; Plain mathematics of levels: how high a volume stands at least, at most, for a part; how much a height holds. No program is named here; sort.Search at a function value of the caller's own, over any world that only grows: the first number of which it says yes; the code's own first; The code's own levels: whole cubic micrometres; The code's own levels, over any tables that do what the document says: Low; The code's own levels, over any tables that do what the document says: High; Plain mathematics of what must stay in a well, and what may be. No program is named here; The code's own dead volumes, over any tables that do what the document says; Layer 15: what the statements know of dead volumes; The statements' shapes of many numbers; What a literal's fit says. No program is named here; A right shape has a slice. No program is named here.
-/
import Derived.OwnWalk
import Derived.Deep.AppendLies
import Derived.KernelRfl
import Derived.Deep.LoopGhost
import Derived.Shelf.Abstract
import Derived.Lib.Hide
import Derived.Lib.MinMax
import Derived.Test.YtglniapfnhedoaaY1
import Derived.Test.YtglniapfnhedoaaY2
import Derived.Test.YtglniapfnhedoaaY3
import Derived.Test.YtglniapfnhedoaaY4
namespace Go.Proofs.Ytglniapfnhedoaa
open Go.RowKit
/-- The code's tables do what the document says: whatever a table is in memory ('T'). -/
structure TabL (T : World → Value → List (Int × Int) → Prop) : Prop where
  keep : ∀ {w w' v L}, T w v L → B w w' → T w' v L
  ptr : ∀ {w v L}, T w v L → ∃ a, v = .pointer (some a)
  ofs : ∀ (v : Value) (l : List Sec) (w : World), IsSecs w v l → Calls Try.prog 9 #[v] w (OfRes T l (fun p => .tuple #[p, .int .i64 0]) (fun p => .tuple #[p, .int .i64 23]) w)
  slices : ∀ (v : Value) (L : List (Int × Int)) (w : World), TBnd L → T w v L → Calls Try.prog 45 #[v] w fun e w' => e = .returned (.int .i64 L.length) ∧ B w w'
  low : ∀ (v : Value) (L : List (Int × Int)) (i : Int) (w : World), TBnd L → I64 i → T w v L → Calls Try.prog 49 #[v, .int .i64 i] w fun e w' => e = .returned (.int .i64 (lowT L (nearI L.length i))) ∧ B w w'
  high : ∀ (v : Value) (L : List (Int × Int)) (i : Int) (w : World), TBnd L → I64 i → T w v L → Calls Try.prog 46 #[v, .int .i64 i] w fun e w' => e = .returned (.int .i64 (highT L (nearI L.length i))) ∧ B w w'
  tall : ∀ (v : Value) (L : List (Int × Int)) (w : World), TBnd L → T w v L → Calls Try.prog 20 #[v] w fun e w' => e = .returned (.int .i64 (L.length * 100)) ∧ B w w'
/-- The two ways of Of, one by one. -/
theorem TabL.yes {T : World → Value → List (Int × Int) → Prop} (c : TabL T) (v : Value) (l : List Sec) (w : World) (hv : IsSecs w v l) (hr : rightS l = true) :
    Calls Try.prog 9 #[v] w fun e w' => ∃ a, e = .returned (.tuple #[.pointer (some a), .int .i64 0]) ∧ T w' (.pointer (some a)) (slAll l) ∧ B w w' :=
  (c.ofs v l w hv).mono fun e w' h => by
    rcases h with ⟨_, p, rfl, h2, h3⟩ | ⟨h0, _⟩
    · obtain ⟨a, rfl⟩ := c.ptr h2
      exact ⟨a, rfl, h2, h3⟩
    · rw [hr] at h0; cases h0
theorem TabL.no {T : World → Value → List (Int × Int) → Prop} (c : TabL T) (v : Value) (l : List Sec) (w : World) (hv : IsSecs w v l) (hr : rightS l = false) :
    Calls Try.prog 9 #[v] w fun e w' => e = .returned (.tuple #[.pointer none, .int .i64 23]) ∧ B w w' :=
  (c.ofs v l w hv).mono fun e w' h => by
    rcases h with ⟨h0, _⟩ | ⟨_, h1, h2⟩
    · rw [hr] at h0; cases h0
    · exact ⟨h1, h2⟩
end Go.Proofs.Ytglniapfnhedoaa

namespace Go.Proofs.Ytglniapfnhedoaa
open Go.RowKit
theorem tab_lcode : TabL CTab where
  keep := fun h q => h.keepB q
  ptr := fun h => by obtain ⟨b, _, _, _, _, _, h0, _⟩ := h; exact ⟨_, h0⟩
  ofs := cof_any
  slices := fun v L w hb ht => cslices_any v L w hb ht
  low := fun v L i w hb _ ht => clow_any v L i w hb ht
  high := fun v L i w hb _ ht => chigh_any v L i w hb ht
  tall := fun v L w _ ht => ctall_any v L w ht
end Go.Proofs.Ytglniapfnhedoaa

namespace Go.Proofs.Ytglniapfnhedoaa
open Go.RowKit
/-- The first number below n of which p holds; n if there is none. -/
def firstIx : Nat → (Nat → Bool) → Nat
  | 0, _ => 0
  | n + 1, p => if p 0 then 0 else firstIx n (fun k => p (k + 1)) + 1
theorem firstIx_le : ∀ (n : Nat) (p : Nat → Bool), firstIx n p ≤ n
  | 0, _ => Nat.le_refl _
  | n + 1, p => by
    unfold firstIx
    split
    · omega
    · have := firstIx_le n (fun k => p (k + 1)); omega
theorem firstIx_not : ∀ (n : Nat) (p : Nat → Bool) (j : Nat), j < firstIx n p → p j = false
  | 0, _, _, h => by simp [firstIx] at h
  | n + 1, p, j, h => by
    unfold firstIx at h
    by_cases c : p 0 = true
    · rw [if_pos c] at h; omega
    · rw [if_neg c] at h
      cases j with
      | zero => simpa using c
      | succ j => exact firstIx_not n (fun k => p (k + 1)) j (by omega)
theorem firstIx_hit : ∀ (n : Nat) (p : Nat → Bool), firstIx n p < n → p (firstIx n p) = true
  | 0, _, h => by omega
  | n + 1, p, h => by
    unfold firstIx at h ⊢
    by_cases c : p 0 = true
    · rw [if_pos c]; exact c
    · rw [if_neg c] at h ⊢
      exact firstIx_hit n (fun k => p (k + 1)) (by omega)
theorem firstIx_is {n : Nat} {p : Nat → Bool} {i : Nat} (h0 : i ≤ n) (h1 : ∀ j, j < i → p j = false) (h2 : i < n → p i = true) : firstIx n p = i := by
  have a := firstIx_le n p
  rcases Nat.lt_trichotomy (firstIx n p) i with c | c | c
  · have := firstIx_hit n p (by omega)
    rw [h1 _ c] at this; cases this
  · exact c
  · have := firstIx_not n p i c
    rw [h2 (by omega)] at this; cases this
theorem firstIx_mono {n : Nat} {p q : Nat → Bool} (h : ∀ i, i < n → q i = true → p i = true) : firstIx n p ≤ firstIx n q := by
  have a := firstIx_le n p
  have b := firstIx_le n q
  by_cases c : firstIx n p ≤ firstIx n q
  · exact c
  · have h1 := firstIx_not n p (firstIx n q) (by omega)
    have h2 := firstIx_hit n q (by omega)
    rw [h _ (by omega) h2] at h1; cases h1
theorem firstIx_ge {n : Nat} {p : Nat → Bool} {i : Nat} (h0 : i ≤ n) (h1 : ∀ j, j < i → p j = false) : i ≤ firstIx n p := by
  by_cases c : i ≤ firstIx n p
  · exact c
  · have := firstIx_hit n p (by omega)
    rw [h1 _ (by omega)] at this; cases this
theorem firstIx_to {n : Nat} {p : Nat → Bool} {i : Nat} (h1 : p i = true) : firstIx n p ≤ i := by
  by_cases c : firstIx n p ≤ i
  · exact c
  · have := firstIx_not n p i (by omega)
    rw [h1] at this; cases this
/-- Cubic micrometres of nanolitres. -/
def cubM (v : Int) : Int := min (max v 0) 1000000000 * 1000000
theorem cub_bnd (v : Int) : 0 ≤ cubM v ∧ cubM v ≤ 1000000000000000 := by unfold cubM; omega
theorem cub_mono {v u : Int} (h : v ≤ u) : cubM v ≤ cubM u := by unfold cubM; omega
def lvLow (L : List (Int × Int)) (v : Int) : Int := 100 * (firstIx L.length (fun i => decide (cubM v < highT L (i + 1))) : Int)
def lvHigh (L : List (Int × Int)) (v : Int) : Int := 100 * (firstIx (L.length + 1) (fun i => decide (cubM v ≤ lowT L i)) : Int)
theorem low_all {L : List (Int × Int)} (hb : TBnd L) : ∀ (i j : Nat), i ≤ j → lowT L i ≤ lowT L j ∧ highT L i ≤ highT L j := by
  intro i j h
  induction j with
  | zero => obtain rfl : i = 0 := by omega
            exact ⟨Int.le_refl _, Int.le_refl _⟩
  | succ j ih =>
    by_cases c : i = j + 1
    · subst c; exact ⟨Int.le_refl _, Int.le_refl _⟩
    · have := ih (by omega)
      by_cases d : j < L.length
      · have := table_rise hb.b j d
        omega
      · have e : L.take (j + 1) = L.take j := by rw [List.take_of_length_le (by omega), List.take_of_length_le (by omega)]
        unfold lowT highT at *
        rw [e]; exact this
theorem high_lt {L : List (Int × Int)} (hb : TBnd L) (i j : Nat) (h : i < j) (hj : j ≤ L.length) : highT L i < highT L j := by
  have a := table_rise hb.b i (by omega)
  have b := low_all hb (i + 1) j (by omega)
  omega
theorem lvLow_mono (L : List (Int × Int)) {v u : Int} (h : v ≤ u) : lvLow L v ≤ lvLow L u := by
  have hc := cub_mono h
  have := firstIx_mono (n := L.length) (p := fun i => decide (cubM v < highT L (i + 1))) (q := fun i => decide (cubM u < highT L (i + 1))) (fun i _ hi => by simp only [decide_eq_true_eq] at hi ⊢; omega)
  unfold lvLow
  omega
theorem lvHigh_mono (L : List (Int × Int)) {v u : Int} (h : v ≤ u) : lvHigh L v ≤ lvHigh L u := by
  have hc := cub_mono h
  have := firstIx_mono (n := L.length + 1) (p := fun i => decide (cubM v ≤ lowT L i)) (q := fun i => decide (cubM u ≤ lowT L i)) (fun i _ hi => by simp only [decide_eq_true_eq] at hi ⊢; omega)
  unfold lvHigh
  omega
theorem lvLow_bnd (L : List (Int × Int)) (v : Int) : 0 ≤ lvLow L v ∧ lvLow L v ≤ 100 * (L.length : Int) := by
  have := firstIx_le L.length (fun i => decide (cubM v < highT L (i + 1)))
  unfold lvLow; omega
theorem lvHigh_bnd (L : List (Int × Int)) (v : Int) : 0 ≤ lvHigh L v ∧ lvHigh L v ≤ 100 * (L.length : Int) + 100 := by
  have := firstIx_le (L.length + 1) (fun i => decide (cubM v ≤ lowT L i))
  unfold lvHigh; omega
end Go.Proofs.Ytglniapfnhedoaa

namespace Go.Proofs.Ytglniapfnhedoaa
open Go.RowKit
set_option maxHeartbeats 2000000 in
theorem search_any (g : Nat) (cb : Array Value) (n : Nat) (p : Nat → Bool) (w : World) (eg : ∀ args w, (callFunc g args).run Try.prog w = .ok (.enter g args) w) (hsz : n < 4611686018427387904)
    (hf : ∀ i : Nat, i < n → ∀ w1, B w w1 → Calls Try.prog g (#[.int .i64 i] ++ cb) w1 fun e w2 => e = .returned (.bool (p i)) ∧ B w1 w2)
    (hmono : ∀ a b, a ≤ b → b < n → p a = true → p b = true) :
    Calls Try.prog 41 #[.int .i64 n, .func (.func g) #[] cb] w fun e w' => e = .returned (.int .i64 (firstIx n p)) ∧ B w w' := by
  have HF := Lib.hid hf
  have M := Lib.hid hmono
  have HX := Lib.hid (fun (i : Nat) h0 h1 h2 => @firstIx_is n p i h0 h1 h2)
  generalize firstIx n p = F at *
  clear hf hmono
  go_enter Try.func41, Try.ntmps41
  go_wp2
  go_loopw [5, 6] (fun s5 s6 wr => ∃ (lo hi : Nat), s5 = .int .i64 lo ∧ s6 = .int .i64 hi ∧ lo ≤ hi ∧ hi ≤ n ∧ B w wr ∧ RowKit.Hid ((∀ t, t < lo → p t = false) ∧ (∀ t, hi ≤ t → t < n → p t = true))) (fun s5 s6 _ => (intOf s6).toNat - (intOf s5).toNat)
  case atStart => exact ⟨0, n, rfl, rfl, Nat.zero_le _, Nat.le_refl _, B.refl _, Lib.hid ⟨fun t ht => absurd ht (Nat.not_lt_zero _), fun t h1 h2 => by omega⟩⟩
  case round =>
    obtain ⟨lo, hi, rfl, rfl, hlh, hin, hg, I⟩ := hrel
    by_cases hlt : lo < hi
    · have hc := HF.out ((lo + hi) / 2) (by omega) _ hg
      rw [show (((lo + hi) / 2 : Nat) : Int) = ((lo : Int) + (hi : Int)) / 2 by omega] at hc
      cases hp : p ((lo + hi) / 2) <;> rw [hp] at hc
      · have HP := Lib.hid hp
        clear hp
        go_wp2_with (go_at_fn g; refine hc.mono ?_; rintro e w' ⟨rfl, hq⟩)
        have g1 := B.trans hg ‹B _ _›
        go_roundw
        case measure => simp [intOf]; omega
        case rel =>
          refine ⟨(lo + hi) / 2 + 1, hi, by rw [show ((lo : Int) + (hi : Int)) / 2 + 1 = (((lo + hi) / 2 + 1 : Nat) : Int) by omega], rfl, by omega, hin, g1, ⟨fun t ht => ?_, I.out.2⟩⟩
          cases h : p t with
          | false => rfl
          | true => have := M.out t ((lo + hi) / 2) (by omega) (by omega) h; rw [HP.out] at this; cases this
      · have HP := Lib.hid hp
        clear hp
        go_wp2_with (go_at_fn g; refine hc.mono ?_; rintro e w' ⟨rfl, hq⟩)
        have g1 := B.trans hg ‹B _ _›
        go_roundw
        case measure => simp [intOf]; omega
        case rel => exact ⟨lo, (lo + hi) / 2, rfl, by rw [show ((lo : Int) + (hi : Int)) / 2 = (((lo + hi) / 2 : Nat) : Int) by omega], by omega, by omega, g1, ⟨I.out.1, fun t ht htn => M.out ((lo + hi) / 2) t ht htn HP.out⟩⟩
    · obtain rfl : hi = lo := by omega
      have HE := Lib.hid (HX.out hi hin I.out.1 (fun h => I.out.2 hi (Nat.le_refl _) h))
      clear HX
      go_wp2
      go_ret
      exact ⟨by rw [HE.out]; rfl, hg⟩
set_option maxHeartbeats 2000000 in
theorem first1_any (k : Nat) (fa ca : Array Value) (bh bx : Nat) (i x y : Int) (w : World) (ek : ∀ args w, (callFunc k args).run Try.prog w = .ok (.enter k args) w)
    (hch : w.cell? ⟨bh, 0, none⟩ = some (.func (.func k) fa ca)) (hcx : w.cell? ⟨bx, 0, none⟩ = some (.int .i64 x))
    (hf : ∀ w1, B w w1 → Calls Try.prog k (fa.push (.int .i64 i) ++ ca) w1 fun e w2 => e = .returned (.int .i64 y) ∧ B w1 w2) :
    Calls Try.prog 54 #[.int .i64 i, .pointer (some ⟨bh, 0, none⟩), .pointer (some ⟨bx, 0, none⟩)] w fun e w' => e = .returned (.bool (decide (x ≤ y))) ∧ B w w' := by
  have HF := Lib.hid hf
  clear hf
  go_enter Try.func54, Try.ntmps54
  go_wp2
  refine wp_region_noPanic ?_
  refine wp_region_seq (S := fun w' => w'.cell? ⟨bh, 0, none⟩ = some (.func (.func k) fa ca) ∧ w'.cell? ⟨bx, 0, none⟩ = some (.int .i64 x) ∧ B w w') [(0, 0), (1, 0), (3, 0), (2, 2), (4, 0), (5, 0)] [0, 0, 3, 0, 12, 31] [0, 0, 3, 0, 12, 16] (by kernel_rfl) (by kernel_rfl) (fun _ _ _ _ _ h => h) ?_ (fun hH => ?_)
  · exact ⟨(B.refl w).drew.keep hch, (B.refl w).drew.keep hcx, (B.refl w).drew⟩
  refine wpSeq_take (d := 5) (v := ?_) rfl rfl (by kernel_rfl) (fun w hS => ?_) ?_
  rotate_left
  · go_simp <;> with_reducible rfl
  dsimp only [List.set_cons_zero, List.set_cons_succ]
  refine wpSeq_take (d := 6) (v := ?_) rfl rfl (by kernel_rfl) (fun w hS => ?_) ?_
  rotate_left
  · go_simp <;> with_reducible rfl
  dsimp only [List.set_cons_zero, List.set_cons_succ]
  refine wpSeq_take (d := 8) (v := ?_) rfl rfl (by kernel_rfl) (fun w hS => ?_) ?_
  rotate_left
  · go_simp <;> with_reducible rfl
  dsimp only [List.set_cons_zero, List.set_cons_succ]
  refine wpSeq_call rfl (by kernel_rfl) (fun K hK => ?_)
  go_simp
  (with_reducible refine (HF.out _ hH.2.2).mono ?_)
  rintro e w' ⟨rfl, hq⟩
  refine hK.out _ _ ?_ (fun hH => ?_)
  · exact ⟨hq.keep hH.1, hq.keep hH.2.1, hH.2.2.trans hq⟩
  clear hK
  refine wpSeq_take (d := 9) (v := ?_) rfl rfl (by kernel_rfl) (fun w hS => ?_) ?_
  rotate_left
  · go_simp <;> with_reducible rfl
  dsimp only [List.set_cons_zero, List.set_cons_succ]
  refine wpSeq_take (d := 4) (v := ?_) rfl rfl (by kernel_rfl) (fun w hS => ?_) ?_
  rotate_left
  · go_simp <;> with_reducible rfl
  dsimp only [List.set_cons_zero, List.set_cons_succ]
  refine wpSeq_done ?_
  refine NoPanic.normal ?_
  obtain ⟨_, _, g⟩ := hH
  clear hch hcx
  go_wp2
  go_ret
  exact ⟨rfl, g⟩
set_option maxHeartbeats 2000000 in
theorem first_any (k : Nat) (fa ca : Array Value) (n : Nat) (t : Nat → Int) (x : Int) (w : World) (ek : ∀ args w, (callFunc k args).run Try.prog w = .ok (.enter k args) w) (hn : n < 1000000)
    (hf : ∀ i : Nat, i ≤ n → ∀ w1, B w w1 → Calls Try.prog k (fa.push (.int .i64 i) ++ ca) w1 fun e w2 => e = .returned (.int .i64 (t i)) ∧ B w1 w2)
    (hmono : ∀ a b, a ≤ b → b ≤ n → t a ≤ t b) :
    Calls Try.prog 44 #[.int .i64 n, .func (.func k) fa ca, .int .i64 x] w fun e w' => e = .returned (.int .i64 (firstIx (n + 1) (fun i => decide (x ≤ t i)))) ∧ B w w' := by
  obtain ⟨W0, hW0⟩ : ∃ W0, W0 = (w.alloc (.cells #[.func (.func k) fa ca] 62)).alloc (.cells #[.int .i64 x] 2) := ⟨_, rfl⟩
  have q0 : B w W0 := by rw [hW0]; exact ((B.refl w).alloc _ _).alloc _ _
  have c1 : W0.cell? ⟨w.heap.size, 0, none⟩ = some (.func (.func k) fa ca) := by rw [hW0]; simp [go_sem]
  have c2 : W0.cell? ⟨w.heap.size + 1, 0, none⟩ = some (.int .i64 x) := by rw [hW0]; simp [go_sem]
  have eg : ∀ args w, (callFunc 54 args).run Try.prog w = .ok (.enter 54 args) w := enters_of Try.func54 (by kernel_rfl) rfl
  have hS := search_any 54 #[.pointer (some ⟨w.heap.size, 0, none⟩), .pointer (some ⟨w.heap.size + 1, 0, none⟩)] (n + 1) (fun i => decide (x ≤ t i)) W0 eg (by omega)
    (fun i hi w1 h1 => first1_any k fa ca w.heap.size (w.heap.size + 1) i x (t i) w1 ek (h1.keep c1) (h1.keep c2) (fun w2 h2 => hf i (by omega) w2 ((q0.trans h1).trans h2)))
    (fun a b hab hb h => by have := hmono a b hab (by omega); simp only [decide_eq_true_eq] at h ⊢; omega)
  generalize firstIx (n + 1) (fun i => decide (x ≤ t i)) = F at *
  rw [show ((n + 1 : Nat) : Int) = (n : Int) + 1 by omega] at hS
  clear hf hmono c1 c2 eg ek
  have w1 : IntKind.i64.wrap ((n : Int) + 1) = (n : Int) + 1 := wrapI (by omega) (by omega)
  go_enter Try.func44, Try.ntmps44
  go_wp2_with fail
  rw [← hW0]
  refine hS.mono ?_
  rintro e w2 ⟨rfl, hq⟩
  go_wp2
  go_ret
  exact ⟨rfl, q0.trans hq⟩
end Go.Proofs.Ytglniapfnhedoaa

namespace Go.Proofs.Ytglniapfnhedoaa
open Go.RowKit
variable {T : World → Value → List (Int × Int) → Prop}
theorem cubic_any (v : Int) (w : World) : Calls Try.prog 47 #[.int .i64 v] w fun e w' => e = .returned (.int .i64 (cubM v)) ∧ w = w' := by
  unfold cubM
  obtain ⟨m, e1⟩ : ∃ m, max v 0 = m := ⟨_, rfl⟩
  obtain ⟨q, e2⟩ : ∃ q, min m 1000000000 = q := ⟨_, rfl⟩
  rw [e1, e2]
  have w1 : IntKind.i64.wrap (1000000 * q) = q * 1000000 := by rw [Int.mul_comm]; exact wrapI (by omega) (by omega)
  have w2 : IntKind.i64.wrap (q * 1000000) = q * 1000000 := wrapI (by omega) (by omega)
  go_enter Try.func47, Try.ntmps47
  go_wp2
  go_ret
  exact ⟨rfl, rfl⟩
end Go.Proofs.Ytglniapfnhedoaa

namespace Go.Proofs.Ytglniapfnhedoaa
open Go.RowKit
variable {T : World → Value → List (Int × Int) → Prop}
/-- Of a nil table. -/
theorem low_nil (x : Int) (w : World) : Calls Try.prog 33 #[.pointer none, .int .i64 x] w fun e w' => e = .returned (.int .i64 0) ∧ B w w' := by
  go_enter Try.func33, Try.ntmps33
  go_wp2
  go_ret
  exact ⟨rfl, B.refl _⟩
theorem first_low (L : List (Int × Int)) (x : Int) (hx : 0 ≤ x) : (firstIx (L.length + 1) (fun i => decide (x + 1 ≤ highT L i)) : Int) = (firstIx L.length (fun i => decide (x < highT L (i + 1))) : Int) + 1 := by
  have h0 : decide (x + 1 ≤ highT L 0) = false := decide_eq_false (by simp [highT]; omega)
  have e : (fun k => decide (x + 1 ≤ highT L (k + 1))) = (fun i => decide (x < highT L (i + 1))) := by
    funext k
    exact decide_eq_decide.2 ⟨fun h => by omega, fun h => by omega⟩
  rw [firstIx, h0, e]
  simp
theorem clv_low (c : TabL T) (v : Value) (L : List (Int × Int)) (x : Int) (w : World) (hb : TBnd L) (ht : T w v L) :
    Calls Try.prog 33 #[v, .int .i64 x] w fun e w' => e = .returned (.int .i64 (lvLow L x)) ∧ B w w' := by
  obtain ⟨a, rfl⟩ := c.ptr ht
  have hn6 := hb.n
  obtain ⟨x0, x1⟩ := cub_bnd x
  have cC := fun w => cubic_any x w
  have cS := fun w ht => c.slices (.pointer (some a)) L w hb ht
  have ek : ∀ args w, (callFunc 46 args).run Try.prog w = .ok (.enter 46 args) w := enters_of Try.func46 (by kernel_rfl) rfl
  have cF := fun w (hw : T w (.pointer (some a)) L) => first_any 46 #[.pointer (some a)] #[] L.length (highT L) (cubM x + 1) w ek (by omega)
    (fun i hi w1 h1 => by
      have := c.high (.pointer (some a)) L i w1 hb (by unfold I64; omega) (c.keep hw h1)
      rw [nearI_of _ _ hi] at this
      exact this)
    (fun i j hij _ => (low_all hb i j hij).2)
  have fl := first_low L (cubM x) x0
  have fle := firstIx_le L.length (fun i => decide (cubM x < highT L (i + 1)))
  rw [fl] at cF
  unfold lvLow
  generalize firstIx L.length (fun i => decide (cubM x < highT L (i + 1))) = F at *
  generalize cubM x = X at *
  clear fl ek hb
  have u1 : IntKind.i64.wrap (X + 1) = X + 1 := wrapI (by omega) (by omega)
  have u2 : IntKind.i64.wrap ((F : Int) + 1 - 1) = F := by rw [Int.add_sub_cancel]; exact wrapI (by omega) (by omega)
  have u3 : IntKind.i64.wrap (100 * (F : Int)) = 100 * (F : Int) := wrapI (by omega) (by omega)
  have u4 : IntKind.i64.wrap (F : Int) = F := wrapI (by omega) (by omega)
  have HT := Lib.hid ht
  clear ht
  have hmf : ∀ (fn : Fn) (first cap : Array Value) (w : World), (Instr.makeFunc fn first cap).run Try.prog w = .ok (.func fn first cap) w := fun _ _ _ _ => rfl
  go_enter Try.func33, Try.ntmps33
  go_wp2_with fail
  refine (cS _ HT.out).mono ?_
  rintro e w1 ⟨rfl, q1⟩
  go_wp2_with fail
  refine (cC _).mono ?_
  rintro e w2 ⟨rfl, rfl⟩
  go_wp2_with fail
  refine (cF _ (c.keep HT.out q1)).mono ?_
  rintro e w3 ⟨rfl, q2⟩
  replace q1 := q1.trans q2
  go_wp2
  go_ret
  exact ⟨rfl, q1⟩
end Go.Proofs.Ytglniapfnhedoaa

namespace Go.Proofs.Ytglniapfnhedoaa
open Go.RowKit
variable {T : World → Value → List (Int × Int) → Prop}
theorem clv_high (c : TabL T) (v : Value) (L : List (Int × Int)) (x : Int) (w : World) (hb : TBnd L) (ht : T w v L) :
    Calls Try.prog 35 #[v, .int .i64 x] w fun e w' => e = .returned (.int .i64 (lvHigh L x)) ∧ B w w' := by
  obtain ⟨a, rfl⟩ := c.ptr ht
  have hn6 := hb.n
  have cC := fun w => cubic_any x w
  have cS := fun w ht => c.slices (.pointer (some a)) L w hb ht
  have ek : ∀ args w, (callFunc 49 args).run Try.prog w = .ok (.enter 49 args) w := enters_of Try.func49 (by kernel_rfl) rfl
  have cF := fun w (hw : T w (.pointer (some a)) L) => first_any 49 #[.pointer (some a)] #[] L.length (lowT L) (cubM x) w ek (by omega)
    (fun i hi w1 h1 => by
      have := c.low (.pointer (some a)) L i w1 hb (by unfold I64; omega) (c.keep hw h1)
      rw [nearI_of _ _ hi] at this
      exact this)
    (fun i j hij _ => (low_all hb i j hij).1)
  have fle := firstIx_le (L.length + 1) (fun i => decide (cubM x ≤ lowT L i))
  unfold lvHigh
  generalize firstIx (L.length + 1) (fun i => decide (cubM x ≤ lowT L i)) = F at *
  generalize cubM x = X at *
  clear ek hb
  have u3 : IntKind.i64.wrap (100 * (F : Int)) = 100 * (F : Int) := wrapI (by omega) (by omega)
  have u4 : IntKind.i64.wrap (F : Int) = F := wrapI (by omega) (by omega)
  have HT := Lib.hid ht
  clear ht
  go_enter Try.func35, Try.ntmps35
  go_wp2_with fail
  refine (cS _ HT.out).mono ?_
  rintro e w1 ⟨rfl, q1⟩
  go_wp2_with fail
  refine (cC _).mono ?_
  rintro e w2 ⟨rfl, rfl⟩
  go_wp2_with fail
  refine (cF _ (c.keep HT.out q1)).mono ?_
  rintro e w3 ⟨rfl, q2⟩
  replace q1 := q1.trans q2
  go_wp2
  go_ret
  exact ⟨rfl, q1⟩
end Go.Proofs.Ytglniapfnhedoaa

namespace Go.Proofs.Ytglniapfnhedoaa
open Go.RowKit
def enM (L : List (Int × Int)) (v : Int) : Bool := decide (1300 ≤ lvLow L v)
def roM (L : List (Int × Int)) (v : Int) : Bool := decide (lvHigh L v + 500 ≤ (L.length : Int) * 100)
def deadV (L : List (Int × Int)) : Int := if 13 ≤ L.length then (highT L 13 + 999999) / 1000000 else 0
def limV (L : List (Int × Int)) : Int := if 5 ≤ L.length then lowT L (L.length - 5) / 1000000 else 0
theorem low_iff {L : List (Int × Int)} (hb : TBnd L) (n : Nat) (hn : n ≤ L.length) (v : Int) : 100 * (n : Int) ≤ lvLow L v ↔ highT L n ≤ cubM v := by
  obtain ⟨x0, x1⟩ := cub_bnd v
  unfold lvLow
  generalize cubM v = x at *
  constructor
  · intro h
    cases n with
    | zero => have : highT L 0 = 0 := by simp [highT]
              omega
    | succ n =>
      have := firstIx_not L.length (fun i => decide (x < highT L (i + 1))) n (by omega)
      simp only [decide_eq_false_iff_not] at this
      omega
  · intro h
    have := firstIx_ge (n := L.length) (p := fun i => decide (x < highT L (i + 1))) hn (fun j hj => by
      have := (low_all hb (j + 1) n (by omega)).2
      simp only [decide_eq_false_iff_not]; omega)
    omega
theorem high_iff {L : List (Int × Int)} (hb : TBnd L) (n : Nat) (hn : n ≤ L.length) (v : Int) : lvHigh L v ≤ 100 * (n : Int) ↔ cubM v ≤ lowT L n := by
  unfold lvHigh
  generalize cubM v = x at *
  constructor
  · intro h
    have h1 := firstIx_hit (L.length + 1) (fun i => decide (x ≤ lowT L i)) (by omega)
    have h2 := (low_all hb (firstIx (L.length + 1) (fun i => decide (x ≤ lowT L i))) n (by omega)).1
    simp only [decide_eq_true_eq] at h1
    omega
  · intro h
    have := firstIx_to (n := L.length + 1) (p := fun i => decide (x ≤ lowT L i)) (i := n) (by simpa using h)
    omega
theorem en_iff {L : List (Int × Int)} (hb : TBnd L) (v : Int) : enM L v = (decide (13 ≤ L.length) && decide (highT L 13 ≤ cubM v)) := by
  unfold enM
  by_cases h : 13 ≤ L.length
  · have := low_iff hb 13 h v
    rw [decide_eq_true h, Bool.true_and]
    exact decide_eq_decide.2 this
  · have := (lvLow_bnd L v).2
    rw [decide_eq_false h, Bool.false_and]
    exact decide_eq_false (by omega)
theorem ro_iff {L : List (Int × Int)} (hb : TBnd L) (v : Int) : roM L v = (decide (5 ≤ L.length) && decide (cubM v ≤ lowT L (L.length - 5))) := by
  unfold roM
  by_cases h : 5 ≤ L.length
  · have := high_iff hb (L.length - 5) (by omega) v
    rw [decide_eq_true h, Bool.true_and]
    exact decide_eq_decide.2 ⟨fun a => this.1 (by omega), fun a => by have := this.2 a; omega⟩
  · have := (lvHigh_bnd L v).1
    rw [decide_eq_false h, Bool.false_and]
    exact decide_eq_false (by omega)
theorem en_mono {L : List (Int × Int)} {v u : Int} (h : v ≤ u) : enM L v = true → enM L u = true := by
  unfold enM
  have := lvLow_mono L h
  simp only [decide_eq_true_eq]
  omega
theorem ro_mono {L : List (Int × Int)} {v u : Int} (h : v ≤ u) : roM L u = true → roM L v = true := by
  unfold roM
  have := lvHigh_mono L h
  simp only [decide_eq_true_eq]
  omega
theorem deadV_bnd {L : List (Int × Int)} (hb : TBnd L) : 0 ≤ deadV L ∧ deadV L ≤ 24000001 := by
  unfold deadV
  split
  · have := hb.at 13 (by omega)
    omega
  · omega
theorem limV_bnd {L : List (Int × Int)} (hb : TBnd L) : 0 ≤ limV L ∧ limV L ≤ 24000001 := by
  unfold limV
  split
  · have := hb.at (L.length - 5) (by omega)
    omega
  · omega
/-- What must stay is just enough. -/
theorem dead_just {L : List (Int × Int)} (hb : TBnd L) (h : 13 ≤ L.length) : 0 < deadV L ∧ enM L (deadV L) = true ∧ ∀ v, v < deadV L → enM L v = false := by
  have b := hb.at 13 h
  have p := high_lt hb 0 13 (by omega) h
  have z : highT L 0 = 0 := by simp [highT]
  have e : deadV L = (highT L 13 + 999999) / 1000000 := if_pos h
  rw [e]
  refine ⟨by omega, ?_, fun v hv => ?_⟩
  · rw [en_iff hb, decide_eq_true h, Bool.true_and]
    exact decide_eq_true (by unfold cubM; omega)
  · rw [en_iff hb, decide_eq_true h, Bool.true_and]
    exact decide_eq_false (by unfold cubM; omega)
theorem dead_none {L : List (Int × Int)} (hb : TBnd L) (h : ¬ 13 ≤ L.length) (v : Int) : enM L v = false := by
  rw [en_iff hb, decide_eq_false h, Bool.false_and]
/-- What may be is just not too much. -/
theorem lim_just {L : List (Int × Int)} (hb : TBnd L) (h : 5 ≤ L.length) : roM L (limV L) = true ∧ ∀ v, limV L < v → roM L v = false := by
  have b := hb.at (L.length - 5) (by omega)
  have e : limV L = lowT L (L.length - 5) / 1000000 := if_pos h
  rw [e]
  refine ⟨?_, fun v hv => ?_⟩
  · rw [ro_iff hb, decide_eq_true h, Bool.true_and]
    exact decide_eq_true (by unfold cubM; omega)
  · rw [ro_iff hb, decide_eq_true h, Bool.true_and]
    exact decide_eq_false (by unfold cubM; omega)
theorem lim_none {L : List (Int × Int)} (hb : TBnd L) (h : ¬ 5 ≤ L.length) (v : Int) : roM L v = false := by
  rw [ro_iff hb, decide_eq_false h, Bool.false_and]
/-- The search's answers. -/
theorem dead_first {L : List (Int × Int)} (hb : TBnd L) (n : Nat) (hn : 24000002 ≤ n) : (firstIx n (fun i => enM L i) : Int) = if 13 ≤ L.length then deadV L else n := by
  by_cases h : 13 ≤ L.length
  · obtain ⟨h0, h1, h2⟩ := dead_just hb h
    have hB := deadV_bnd hb
    rw [if_pos h, firstIx_is (i := (deadV L).toNat) (by omega) (fun j hj => h2 _ (by omega)) (fun _ => by rw [show ((deadV L).toNat : Int) = deadV L by omega]; exact h1)]
    omega
  · rw [if_neg h, firstIx_is (i := n) (Nat.le_refl _) (fun j hj => dead_none hb h _) (fun hh => by omega)]
theorem lim_first {L : List (Int × Int)} (hb : TBnd L) (n : Nat) (hn : 24000003 ≤ n) : (firstIx n (fun i => !roM L i) : Int) = if 5 ≤ L.length then limV L + 1 else 0 := by
  by_cases h : 5 ≤ L.length
  · obtain ⟨h1, h2⟩ := lim_just hb h
    have hB := limV_bnd hb
    rw [if_pos h, firstIx_is (i := (limV L).toNat + 1) (by omega) (fun j hj => by rw [ro_mono (by omega) h1]; rfl) (fun _ => by rw [h2 _ (by omega)]; rfl)]
    omega
  · rw [if_neg h, firstIx_is (i := 0) (by omega) (fun j hj => by omega) (fun hh => by rw [lim_none hb h]; rfl)]
    omega
end Go.Proofs.Ytglniapfnhedoaa

namespace Go.Proofs.Ytglniapfnhedoaa
open Go.RowKit
variable {T : World → Value → List (Int × Int) → Prop}
theorem enough_any (c : TabL T) (v : Value) (L : List (Int × Int)) (x : Int) (w : World) (hb : TBnd L) (ht : T w v L) :
    Calls Try.prog 15 #[v, .int .i64 x] w fun e w' => e = .returned (.bool (enM L x)) ∧ B w w' := by
  have cL := fun w ht => clv_low c v L x w hb ht
  obtain ⟨a, rfl⟩ := c.ptr ht
  unfold enM
  generalize lvLow L x = z at *
  go_enter Try.func15, Try.ntmps15
  go_wp2_with fail
  refine (cL _ ht).mono ?_
  rintro e wS ⟨rfl, q⟩
  go_wp2
  go_ret
  exact ⟨rfl, q⟩
theorem enough_nil (x : Int) (w : World) : Calls Try.prog 15 #[.pointer none, .int .i64 x] w fun e w' => e = .returned (.bool false) ∧ B w w' := by
  have cL := fun w => low_nil x w
  go_enter Try.func15, Try.ntmps15
  go_wp2_with fail
  refine (cL _).mono ?_
  rintro e wS ⟨rfl, q⟩
  go_wp2
  go_ret
  exact ⟨rfl, q⟩
theorem room_any (c : TabL T) (v : Value) (L : List (Int × Int)) (x : Int) (w : World) (hb : TBnd L) (ht : T w v L) :
    Calls Try.prog 17 #[v, .int .i64 x] w fun e w' => e = .returned (.bool (roM L x)) ∧ B w w' := by
  have cH := fun w ht => clv_high c v L x w hb ht
  have cT := fun w ht => c.tall v L w hb ht
  have hn6 := hb.n
  have bh := lvHigh_bnd L x
  obtain ⟨a, rfl⟩ := c.ptr ht
  unfold roM
  obtain ⟨N, eN⟩ : ∃ N, (L.length : Int) * 100 = N := ⟨_, rfl⟩
  rw [eN] at cT ⊢
  generalize lvHigh L x = z at *
  obtain ⟨s, es⟩ : ∃ s, z + 500 = s := ⟨_, rfl⟩
  have ws : IntKind.i64.wrap (z + 500) = s := by rw [es]; exact wrapI (by omega) (by omega)
  rw [es]
  clear es eN bh hn6
  have HT := Lib.hid ht
  clear ht
  go_enter Try.func17, Try.ntmps17
  go_wp2_with fail
  refine (cH _ HT.out).mono ?_
  rintro e wS ⟨rfl, q1⟩
  go_wp2_with fail
  refine (cT _ (c.keep HT.out q1)).mono ?_
  rintro e wS ⟨rfl, q2⟩
  replace q1 := q1.trans q2
  go_wp2
  go_ret
  exact ⟨rfl, q1⟩
theorem room_nil (x : Int) (w : World) : Calls Try.prog 17 #[.pointer none, .int .i64 x] w fun e w' => e = .returned (.bool false) ∧ B w w' := by
  go_enter Try.func17, Try.ntmps17
  go_wp2
  go_ret
  exact ⟨rfl, B.refl _⟩
theorem dfirst1_any (k : Nat) (fa ca : Array Value) (bh : Nat) (i : Int) (y : Bool) (w : World) (ek : ∀ args w, (callFunc k args).run Try.prog w = .ok (.enter k args) w)
    (hch : w.cell? ⟨bh, 0, none⟩ = some (.func (.func k) fa ca))
    (hf : ∀ w1, B w w1 → Calls Try.prog k (fa.push (.int .i64 i) ++ ca) w1 fun e w2 => e = .returned (.bool y) ∧ B w1 w2) :
    Calls Try.prog 42 #[.int .i64 i, .pointer (some ⟨bh, 0, none⟩)] w fun e w' => e = .returned (.bool y) ∧ B w w' := by
  have HF := Lib.hid hf
  clear hf
  go_enter Try.func42, Try.ntmps42
  go_wp2_with (go_at_fn k; refine (HF.out _ (B.refl _)).mono ?_; rintro e w' ⟨rfl, hq⟩)
  go_ret
  exact ⟨rfl, ‹B _ _›⟩
theorem dfirst_any (k : Nat) (fa ca : Array Value) (N : Nat) (hN : N = 1000000001) (p : Nat → Bool) (w : World) (ek : ∀ args w, (callFunc k args).run Try.prog w = .ok (.enter k args) w)
    (hf : ∀ i : Nat, ∀ w1, B w w1 → Calls Try.prog k (fa.push (.int .i64 i) ++ ca) w1 fun e w2 => e = .returned (.bool (p i)) ∧ B w1 w2)
    (hmono : ∀ a b, a ≤ b → p a = true → p b = true) :
    Calls Try.prog 26 #[.func (.func k) fa ca] w fun e w' => e = .returned (.int .i64 (firstIx N p)) ∧ B w w' := by
  obtain ⟨W0, hW0⟩ : ∃ W0, W0 = w.alloc (.cells #[.func (.func k) fa ca] 60) := ⟨_, rfl⟩
  have q0 : B w W0 := by rw [hW0]; exact (B.refl w).alloc _ _
  have c1 : W0.cell? ⟨w.heap.size, 0, none⟩ = some (.func (.func k) fa ca) := by rw [hW0]; simp [go_sem]
  have eg : ∀ args w, (callFunc 42 args).run Try.prog w = .ok (.enter 42 args) w := enters_of Try.func42 (by kernel_rfl) rfl
  have hS := search_any 42 #[.pointer (some ⟨w.heap.size, 0, none⟩)] N p W0 eg (by omega)
    (fun i hi w1 h1 => dfirst1_any k fa ca w.heap.size i (p i) w1 ek (h1.keep c1) (fun w2 h2 => hf i w2 ((q0.trans h1).trans h2)))
    (fun a b hab _ h => hmono a b hab h)
  have hFl := firstIx_le N p
  generalize firstIx N p = F at *
  rw [show (N : Int) = 1000000001 by omega] at hS
  have wF : IntKind.i64.wrap (F : Int) = F := wrapI (by omega) (by omega)
  clear hf hmono c1 eg ek hFl hN
  go_enter Try.func26, Try.ntmps26
  go_wp2_with fail
  rw [← hW0]
  refine hS.mono ?_
  rintro e w2 ⟨rfl, hq⟩
  go_wp2
  go_ret
  exact ⟨rfl, q0.trans hq⟩
/-- The function that Volume asks. -/
theorem vol1_any (c : TabL T) (bt : Nat) (i : Int) (v : Value) (L : List (Int × Int)) (w : World) (hb : TBnd L) (hct : w.cell? ⟨bt, 0, none⟩ = some v) (ht : T w v L) :
    Calls Try.prog 27 #[.int .i64 i, .pointer (some ⟨bt, 0, none⟩)] w fun e w' => e = .returned (.bool (enM L i)) ∧ B w w' := by
  have cE := fun w ht => enough_any c v L i w hb ht
  obtain ⟨a, rfl⟩ := c.ptr ht
  generalize enM L i = r at *
  go_enter Try.func27, Try.ntmps27
  go_wp2_with fail
  refine (cE _ ht).mono ?_
  rintro e wS ⟨rfl, q⟩
  go_wp2
  go_ret
  exact ⟨rfl, q⟩
/-- The function that Limit asks. -/
theorem lim1_any (c : TabL T) (bt : Nat) (i : Int) (v : Value) (L : List (Int × Int)) (w : World) (hb : TBnd L) (hct : w.cell? ⟨bt, 0, none⟩ = some v) (ht : T w v L) :
    Calls Try.prog 30 #[.int .i64 i, .pointer (some ⟨bt, 0, none⟩)] w fun e w' => e = .returned (.bool (!roM L i)) ∧ B w w' := by
  have cE := fun w ht => room_any c v L i w hb ht
  obtain ⟨a, rfl⟩ := c.ptr ht
  generalize roM L i = r at *
  go_enter Try.func30, Try.ntmps30
  go_wp2_with fail
  refine (cE _ ht).mono ?_
  rintro e wS ⟨rfl, q⟩
  go_wp2
  go_ret
  exact ⟨rfl, q⟩
theorem dvol_any (c : TabL T) (v : Value) (L : List (Int × Int)) (w : World) (hb : TBnd L) (ht : T w v L) :
    Calls Try.prog 11 #[v] w fun e w' => e = .returned (.tuple #[.int .i64 (deadV L), .bool (decide (13 ≤ L.length))]) ∧ B w w' := by
  obtain ⟨W0, hW0⟩ : ∃ W0, W0 = w.alloc (.cells #[v] 29) := ⟨_, rfl⟩
  have q0 : B w W0 := by rw [hW0]; exact (B.refl w).alloc _ _
  have c1 : W0.cell? ⟨w.heap.size, 0, none⟩ = some v := by rw [hW0]; simp [go_sem]
  obtain ⟨N, hN⟩ : ∃ N : Nat, N = 1000000001 := ⟨_, rfl⟩
  have eg : ∀ args w, (callFunc 27 args).run Try.prog w = .ok (.enter 27 args) w := enters_of Try.func27 (by kernel_rfl) rfl
  have hS := dfirst_any 27 #[] #[.pointer (some ⟨w.heap.size, 0, none⟩)] N hN (fun i => enM L i) W0 eg
    (fun i w1 h1 => vol1_any c w.heap.size i v L w1 hb (h1.keep c1) (c.keep ht (q0.trans h1)))
    (fun a b hab h => en_mono (by omega) h)
  have hF := dead_first hb N (by omega)
  have hv := deadV_bnd hb
  generalize firstIx N (fun i => enM L i) = F at *
  obtain ⟨a, rfl⟩ := c.ptr ht
  clear eg c1 ht hb
  by_cases h : 13 ≤ L.length
  · rw [if_pos h] at hF
    rw [hF] at hS
    rw [decide_eq_true h]
    generalize deadV L = V at *
    have d1 : decide ((1000000000 : Int) < V) = false := decide_eq_false (by omega)
    clear hF hv hN h
    go_enter Try.func11, Try.ntmps11
    go_wp2_with fail
    rw [← hW0]
    refine hS.mono ?_
    rintro e w2 ⟨rfl, hq⟩
    go_wp2
    go_ret2
    exact ⟨rfl, q0.trans hq⟩
  · rw [if_neg h, hN] at hF
    rw [hF] at hS
    have hz : deadV L = 0 := if_neg h
    rw [decide_eq_false h, hz]
    clear hF hv hN h hz
    go_enter Try.func11, Try.ntmps11
    go_wp2_with fail
    rw [← hW0]
    refine hS.mono ?_
    rintro e w2 ⟨rfl, hq⟩
    go_wp2
    go_ret2
    exact ⟨rfl, q0.trans hq⟩
theorem dlim_any (c : TabL T) (v : Value) (L : List (Int × Int)) (w : World) (hb : TBnd L) (ht : T w v L) :
    Calls Try.prog 13 #[v] w fun e w' => e = .returned (.tuple #[.int .i64 (limV L), .bool (decide (5 ≤ L.length))]) ∧ B w w' := by
  obtain ⟨W0, hW0⟩ : ∃ W0, W0 = w.alloc (.cells #[v] 29) := ⟨_, rfl⟩
  have q0 : B w W0 := by rw [hW0]; exact (B.refl w).alloc _ _
  have c1 : W0.cell? ⟨w.heap.size, 0, none⟩ = some v := by rw [hW0]; simp [go_sem]
  obtain ⟨N, hN⟩ : ∃ N : Nat, N = 1000000001 := ⟨_, rfl⟩
  have eg : ∀ args w, (callFunc 30 args).run Try.prog w = .ok (.enter 30 args) w := enters_of Try.func30 (by kernel_rfl) rfl
  have hS := dfirst_any 30 #[] #[.pointer (some ⟨w.heap.size, 0, none⟩)] N hN (fun i => !roM L i) W0 eg
    (fun i w1 h1 => lim1_any c w.heap.size i v L w1 hb (h1.keep c1) (c.keep ht (q0.trans h1)))
    (fun a b hab h => by cases hr : roM L (b : Int) with
      | false => rfl
      | true => rw [ro_mono (show (a : Int) ≤ (b : Int) by omega) hr] at h; cases h)
  have hF := lim_first hb N (by omega)
  have hv := limV_bnd hb
  generalize firstIx N (fun i => !roM L i) = F at *
  obtain ⟨a, rfl⟩ := c.ptr ht
  clear eg c1 ht hb
  by_cases h : 5 ≤ L.length
  · rw [if_pos h] at hF
    rw [hF] at hS
    rw [decide_eq_true h]
    generalize limV L = V at *
    obtain ⟨V1, e1⟩ : ∃ V1, V + 1 = V1 := ⟨_, rfl⟩
    have w1 : IntKind.i64.wrap (V1 - 1) = V := by rw [← e1, Int.add_sub_cancel]; exact wrapI (by omega) (by omega)
    rw [e1] at hS
    have d1 : (V1 == 0) = false := by simp; omega
    clear hF hv hN h e1
    go_enter Try.func13, Try.ntmps13
    go_wp2_with fail
    rw [← hW0]
    refine hS.mono ?_
    rintro e w2 ⟨rfl, hq⟩
    go_wp2
    go_ret2
    exact ⟨rfl, q0.trans hq⟩
  · rw [if_neg h] at hF
    rw [hF] at hS
    have hz : limV L = 0 := if_neg h
    rw [decide_eq_false h, hz]
    clear hF hv hN h hz
    go_enter Try.func13, Try.ntmps13
    go_wp2_with fail
    rw [← hW0]
    refine hS.mono ?_
    rintro e w2 ⟨rfl, hq⟩
    go_wp2
    go_ret2
    exact ⟨rfl, q0.trans hq⟩
theorem vol1_nil (bt : Nat) (i : Int) (w : World) (hct : w.cell? ⟨bt, 0, none⟩ = some (.pointer none)) :
    Calls Try.prog 27 #[.int .i64 i, .pointer (some ⟨bt, 0, none⟩)] w fun e w' => e = .returned (.bool false) ∧ B w w' := by
  have cE := fun w => enough_nil i w
  go_enter Try.func27, Try.ntmps27
  go_wp2_with fail
  refine (cE _).mono ?_
  rintro e wS ⟨rfl, q⟩
  go_wp2
  go_ret
  exact ⟨rfl, q⟩
theorem dvol_nil (w : World) : Calls Try.prog 11 #[.pointer none] w fun e w' => e = .returned (.tuple #[.int .i64 0, .bool false]) ∧ B w w' := by
  obtain ⟨W0, hW0⟩ : ∃ W0, W0 = w.alloc (.cells #[.pointer none] 29) := ⟨_, rfl⟩
  have q0 : B w W0 := by rw [hW0]; exact (B.refl w).alloc _ _
  have c1 : W0.cell? ⟨w.heap.size, 0, none⟩ = some (.pointer none) := by rw [hW0]; simp [go_sem]
  obtain ⟨N, hN⟩ : ∃ N : Nat, N = 1000000001 := ⟨_, rfl⟩
  have eg : ∀ args w, (callFunc 27 args).run Try.prog w = .ok (.enter 27 args) w := enters_of Try.func27 (by kernel_rfl) rfl
  have hS := dfirst_any 27 #[] #[.pointer (some ⟨w.heap.size, 0, none⟩)] N hN (fun _ => false) W0 eg
    (fun i w1 h1 => vol1_nil w.heap.size i w1 (h1.keep c1))
    (fun a b hab h => h)
  have hF : (firstIx N (fun _ => false) : Int) = 1000000001 := by rw [firstIx_is (i := N) (Nat.le_refl _) (fun _ _ => rfl) (fun h => by omega)]; omega
  rw [hF] at hS
  clear hF hN eg c1
  go_enter Try.func11, Try.ntmps11
  go_wp2_with fail
  rw [← hW0]
  refine hS.mono ?_
  rintro e w2 ⟨rfl, hq⟩
  go_wp2
  go_ret2
  exact ⟨rfl, q0.trans hq⟩
theorem lim1_nil (bt : Nat) (i : Int) (w : World) (hct : w.cell? ⟨bt, 0, none⟩ = some (.pointer none)) :
    Calls Try.prog 30 #[.int .i64 i, .pointer (some ⟨bt, 0, none⟩)] w fun e w' => e = .returned (.bool true) ∧ B w w' := by
  have cE := fun w => room_nil i w
  go_enter Try.func30, Try.ntmps30
  go_wp2_with fail
  refine (cE _).mono ?_
  rintro e wS ⟨rfl, q⟩
  go_wp2
  go_ret
  exact ⟨rfl, q⟩
theorem dlim_nil (w : World) : Calls Try.prog 13 #[.pointer none] w fun e w' => e = .returned (.tuple #[.int .i64 0, .bool false]) ∧ B w w' := by
  obtain ⟨W0, hW0⟩ : ∃ W0, W0 = w.alloc (.cells #[.pointer none] 29) := ⟨_, rfl⟩
  have q0 : B w W0 := by rw [hW0]; exact (B.refl w).alloc _ _
  have c1 : W0.cell? ⟨w.heap.size, 0, none⟩ = some (.pointer none) := by rw [hW0]; simp [go_sem]
  obtain ⟨N, hN⟩ : ∃ N : Nat, N = 1000000001 := ⟨_, rfl⟩
  have eg : ∀ args w, (callFunc 30 args).run Try.prog w = .ok (.enter 30 args) w := enters_of Try.func30 (by kernel_rfl) rfl
  have hS := dfirst_any 30 #[] #[.pointer (some ⟨w.heap.size, 0, none⟩)] N hN (fun _ => true) W0 eg
    (fun i w1 h1 => lim1_nil w.heap.size i w1 (h1.keep c1))
    (fun a b hab h => h)
  have hF : (firstIx N (fun _ => true) : Int) = 0 := by rw [firstIx_is (i := 0) (by omega) (fun j hj => by omega) (fun _ => rfl)]; rfl
  rw [hF] at hS
  clear hF hN eg c1
  go_enter Try.func13, Try.ntmps13
  go_wp2_with fail
  rw [← hW0]
  refine hS.mono ?_
  rintro e w2 ⟨rfl, hq⟩
  go_wp2
  go_ret2
  exact ⟨rfl, q0.trans hq⟩
end Go.Proofs.Ytglniapfnhedoaa

namespace Go.Proofs.Ytglniapfnhedoaa
open Go.RowKit
theorem shape0_dead : (decide (13 ≤ (slAll (shapeOf 0)).length) && decide (5 ≤ (slAll (shapeOf 0)).length) && decide (deadV (slAll (shapeOf 0)) < limV (slAll (shapeOf 0)))) = true := by kernel_rfl
theorem low4_dead : (slAll [⟨false, 400, 9, 9, 9, 9⟩]).length = 4 := by kernel_rfl
set_option maxHeartbeats 2000000 in
theorem known15_any {T : World → Value → List (Int × Int) → Prop} (c : TabL T) (w : World) : Calls Try.prog 6 #[] w fun e w' => e = .returned (.bool true) ∧ B w w' := by
  have hr0 : rightS (shapeOf 0) = true := shape_right 0
  have hr1 : rightS [⟨false, 400, 9, 9, 9, 9⟩] = true := by decide
  have hb0 := tbnd_of hr0
  have hb1 := tbnd_of hr1
  have c0 := fun w => shape_any 0 (by decide) (by decide) w
  rw [show ((0 : Int) % 6).toNat = 0 by rfl] at c0
  have c1 := fun v w h => c.yes v (shapeOf 0) w h hr0
  have c2 := fun v w h => c.yes v [⟨false, 400, 9, 9, 9, 9⟩] w h hr1
  have f0 := shape0_dead
  have f1 := low4_dead
  generalize shapeOf 0 = l0 at *
  generalize slAll l0 = L0 at *
  generalize slAll [⟨false, 400, 9, 9, 9, 9⟩] = L1 at *
  simp only [Bool.and_eq_true, decide_eq_true_eq] at f0
  obtain ⟨⟨f0a, f0b⟩, f0c⟩ := f0
  have v0 := fun v w h => dvol_any c v L0 w hb0 h
  have m0 := fun v w h => dlim_any c v L0 w hb0 h
  have v1 := fun v w h => dvol_any c v L1 w hb1 h
  rw [decide_eq_true f0a] at v0
  rw [decide_eq_true f0b] at m0
  rw [decide_eq_false (show ¬ 13 ≤ L1.length by omega)] at v1
  obtain ⟨j1, j2, j3⟩ := dead_just hb0 f0a
  obtain ⟨j4, j5⟩ := lim_just hb0 f0b
  have e1 := fun v w h => enough_any c v L0 (deadV L0) w hb0 h
  have e2 := fun v w h => enough_any c v L0 (deadV L0 - 1) w hb0 h
  have e3 := fun v w h => room_any c v L0 (limV L0) w hb0 h
  have e4 := fun v w h => room_any c v L0 (limV L0 + 1) w hb0 h
  rw [j2] at e1
  rw [j3 _ (by omega)] at e2
  rw [j4] at e3
  rw [j5 _ (by omega)] at e4
  have bv := deadV_bnd hb0
  have bl := limV_bnd hb0
  generalize deadV L0 = V at *
  generalize limV L0 = M at *
  generalize deadV L1 = V1 at *
  obtain ⟨Vm, eV⟩ : ∃ z, V - 1 = z := ⟨_, rfl⟩
  obtain ⟨Mp, eM⟩ : ∃ z, M + 1 = z := ⟨_, rfl⟩
  have wV : IntKind.i64.wrap (V - 1) = Vm := by rw [eV]; exact wrapI (by omega) (by omega)
  have wM : IntKind.i64.wrap (M + 1) = Mp := by rw [eM]; exact wrapI (by omega) (by omega)
  rw [eV] at e2
  rw [eM] at e4
  have d1 : decide (0 < V) = true := decide_eq_true j1
  have d2 : decide (V < M) = true := decide_eq_true f0c
  clear j1 j2 j3 j4 j5 bv bl eV eM f0a f0b f0c f1 hr0 hr1 hb0 hb1
  go_enter Try.func6, Try.ntmps6
  go_wp2_with fail
  refine (c0 _).mono ?_
  rintro e w1 ⟨v0', rfl, hv0, q0⟩
  obtain ⟨oo1, nn1, pp1, rfl⟩ := hv0.form
  have g := q0.b
  clear q0
  go_wp2_with fail
  refine (c1 _ _ hv0).mono ?_
  rintro e w2 ⟨pt, rfl, ht, q⟩
  replace g := g.trans q
  clear q hv0
  go_wp2_with fail
  refine (v0 _ _ ht).mono ?_
  rintro e wS ⟨rfl, q⟩
  replace g := g.trans q
  replace ht := c.keep ht q
  clear q
  go_wp2_with fail
  refine (m0 _ _ ht).mono ?_
  rintro e wS ⟨rfl, q⟩
  replace g := g.trans q
  replace ht := c.keep ht q
  clear q
  go_wp2_with fail
  refine (c2 _ _ (isSecs_new (l := [⟨false, 400, 9, 9, 9, 9⟩]) rfl rfl (fitsB_I (by decide)) (by decide) (by decide))).mono ?_
  rintro e w3 ⟨pu, rfl, hu, h⟩
  replace ht := c.keep ht (((B.refl _).alloc _ _).trans h)
  replace g := g.trans (((B.refl _).alloc _ _).trans h)
  clear h
  go_wp2_with fail
  refine (v1 _ _ hu).mono ?_
  rintro e wS ⟨rfl, q⟩
  replace g := g.trans q
  replace ht := c.keep ht q
  clear q hu
  go_wp2_with fail
  refine (e1 _ _ ht).mono ?_
  rintro e wS ⟨rfl, q⟩
  replace g := g.trans q
  replace ht := c.keep ht q
  clear q
  go_wp2_with fail
  refine (e2 _ _ ht).mono ?_
  rintro e wS ⟨rfl, q⟩
  replace g := g.trans q
  replace ht := c.keep ht q
  clear q
  go_wp2_with fail
  refine (e3 _ _ ht).mono ?_
  rintro e wS ⟨rfl, q⟩
  replace g := g.trans q
  replace ht := c.keep ht q
  clear q
  go_wp2_with fail
  refine (e4 _ _ ht).mono ?_
  rintro e wS ⟨rfl, q⟩
  replace g := g.trans q
  replace ht := c.keep ht q
  clear q
  go_wp2
  go_ret
  exact ⟨rfl, g⟩
end Go.Proofs.Ytglniapfnhedoaa

namespace Go.Proofs.Ytglniapfnhedoaa
open Go.RowKit
theorem wrapH {z : Int} (h1 : 0 ≤ z) (h2 : z ≤ 65535) : IntKind.u16.wrap z = z := by
  simp [IntKind.wrap, IntKind.signed, IntKind.bits]; omega
/-- A height of a number. -/
theorem pick_h (x : Int) (h1 : 0 ≤ x) : ∃ u m t y : Int, x.tmod 5 = u ∧ x.tmod 60 = m ∧ IntKind.u16.wrap (m + 1) = t ∧ IntKind.i64.wrap t = t ∧ IntKind.i64.wrap (t * 100) = y ∧ 100 ≤ y ∧ y ≤ 6000 ∧ y.tmod 100 = 0 := by
  have e := Int.tmod_eq_emod_of_nonneg (b := 60) h1
  refine ⟨_, _, x % 60 + 1, (x % 60 + 1) * 100, rfl, rfl, ?_, ?_, ?_, ?_, ?_, ?_⟩
  · rw [e]; exact wrapH (by omega) (by omega)
  · exact wrapI (by omega) (by omega)
  · exact wrapI (by omega) (by omega)
  · omega
  · omega
  · rw [Int.tmod_eq_emod_of_nonneg (by omega)]; omega
/-- A side of a number, from nought on. -/
theorem pick_a (x : Int) (h1 : 0 ≤ x) : ∃ y : Int, x.tmod 9000 = y ∧ IntKind.i64.wrap y = y ∧ 0 ≤ y ∧ y ≤ 8999 := by
  have e := Int.tmod_eq_emod_of_nonneg (b := 9000) h1
  exact ⟨x % 9000, e, wrapI (by omega) (by omega), by omega, by omega⟩
/-- A side of a number, from one on. -/
theorem pick_b (x : Int) (h1 : 0 ≤ x) : ∃ m y : Int, x.tmod 9000 = m ∧ IntKind.i64.wrap m = m ∧ IntKind.i64.wrap (m + 1) = y ∧ 1 ≤ y ∧ y ≤ 9000 := by
  obtain ⟨m, e1, e2, e3, e4⟩ := pick_a x h1
  exact ⟨m, m + 1, e1, e2, wrapI (by omega) (by omega), by omega, by omega⟩
theorem pick_i (j d : Nat) (h : j ≤ 20) (hd : d ≤ 5) : ∃ i : Nat, i = j + d ∧ IntKind.i64.wrap ((j : Int) + (d : Int)) = (i : Int) ∧ (j : Int) + (d : Int) = (i : Int) ∧ IntKind.i64.wrap (i : Int) = (i : Int) := ⟨j + d, rfl, by rw [wrapI (by omega) (by omega)]; omega, by omega, wrapI (by omega) (by omega)⟩
theorem hsum_wild (l : List Sec) (h : ∀ s ∈ l, s.h ≤ 6000) : ∀ k : Nat, hsumI l k ≤ 6000 * (k : Int)
  | 0 => by simp [hsumI]
  | k + 1 => by
    have ih := hsum_wild l h k
    cases hg : l[k]? with
    | none =>
      have e1 : l.take (k + 1) = l.take k := by rw [List.take_add_one, hg]; simp
      unfold hsumI at *
      rw [e1]
      omega
    | some s =>
      rw [hsumI_succ l k s hg]
      have := h s (List.mem_of_getElem? hg)
      omega
theorem news_alloc {w : World} {cs : Array Value} {t : TypeId} {H : Nat} (hH : w.heap.size = H) : ∀ j u, cs.toList[j]? = some u → ((w.alloc (.cells cs t)).drew).cell? ((⟨H, 0, none⟩ : Addr).add j) = some u := by
  intro j u h
  rw [add0]
  subst hH
  show (w.alloc _).cell? _ = _
  rw [World.cell?_alloc_new]
  simpa using h
/-- A right shape is answered, in new memory. -/
def Wilded (w : World) (e : Ending) (w' : World) : Prop := ∃ v l, e = .returned v ∧ IsSecs w' v l ∧ rightS l = true ∧ B w w'
/-- A section of those shapes. -/
def wildSec (s : Sec) : Prop := secOk s = true ∧ s.h ≤ 6000 ∧ s.I ∧ s.a0 ≤ 9000 ∧ s.a1 ≤ 9000
/-- A right shape is answered, in new memory, of sides that aren't great. -/
def WildedS (w : World) (e : Ending) (w' : World) : Prop := ∃ v l, e = .returned v ∧ IsSecs w' v l ∧ rightS l = true ∧ (∀ s ∈ l, s.I ∧ s.a0 ≤ 9000 ∧ s.a1 ≤ 9000) ∧ B w w'
theorem shape0_sides : ∀ s ∈ shapeOf ((0 : Int) % 6).toNat, s.I ∧ s.a0 ≤ 9000 ∧ s.a1 ≤ 9000 := fun s hs => by
  have hI := fitsB_I (l := shapeOf 0) (by decide) s hs
  have e : s = ⟨true, 10000, 7000, 0, 7000, 0⟩ := List.mem_singleton.1 hs
  refine ⟨hI, ?_, ?_⟩ <;> rw [e] <;> decide
theorem wild_right (l : List Sec) (h1 : 1 ≤ l.length) (h2 : l.length ≤ 4) (h : ∀ s ∈ l, wildSec s) : rightS l = true := by
  have hs := hsum_wild l (fun s hs => (h s hs).2.1) l.length
  have ha : l.all secOk = true := List.all_eq_true.2 fun s hs => (h s hs).1
  unfold rightS
  rw [decide_eq_true h1, decide_eq_true h2, ha, decide_eq_true (by omega)]
  rfl
theorem inB_of {v a b : Int} (h1 : a ≤ v) (h2 : v ≤ b) : inB v a b = true := by
  unfold inB; rw [decide_eq_true h1, decide_eq_true h2]; rfl
theorem wild_true (y0 y1 y2 : Int) (s6 : 100 ≤ y0) (s7 : y0 ≤ 6000) (s8 : y0.tmod 100 = 0) (s11 : 0 ≤ y1) (s12 : y1 ≤ 8999) (s16 : 1 ≤ y2) (s17 : y2 ≤ 9000) : wildSec ⟨true, y0, y1, 0, y2, 0⟩ := by
  refine ⟨?_, s7, ⟨?_, ?_, ?_, ?_, ?_⟩, ?_, ?_⟩
  · unfold secOk
    simp only [inB_of (show 0 ≤ y1 by omega) (show y1 ≤ 20000 by omega), inB_of (show 1 ≤ y2 by omega) (show y2 ≤ 20000 by omega), decide_eq_true (show 1 ≤ y0 by omega), decide_eq_true (show y0 ≤ 60000 by omega), decide_eq_true s8]
    simp
  all_goals first | (unfold I64; simp; omega) | (unfold I64; simp; done) | (simp only; omega)
theorem wild_false (y0 y1 y2 y3 y4 : Int) (s6 : 100 ≤ y0) (s7 : y0 ≤ 6000) (s8 : y0.tmod 100 = 0) (s11 : 0 ≤ y1) (s12 : y1 ≤ 8999) (s16 : 1 ≤ y2) (s17 : y2 ≤ 9000) (s20 : 0 ≤ y3) (s21 : y3 ≤ 8999) (s25 : 1 ≤ y4) (s26 : y4 ≤ 9000) :
    wildSec ⟨false, y0, y1, y3, y2, y4⟩ := by
  refine ⟨?_, s7, ⟨?_, ?_, ?_, ?_, ?_⟩, ?_, ?_⟩
  · unfold secOk
    simp only [inB_of (show 0 ≤ y1 by omega) (show y1 ≤ 20000 by omega), inB_of (show 1 ≤ y2 by omega) (show y2 ≤ 20000 by omega), inB_of (show 0 ≤ y3 by omega) (show y3 ≤ 20000 by omega), inB_of (show 1 ≤ y4 by omega) (show y4 ≤ 20000 by omega), decide_eq_true (show 1 ≤ y0 by omega), decide_eq_true (show y0 ≤ 60000 by omega), decide_eq_true s8]
    simp
  all_goals first | (unfold I64; simp; omega) | (unfold I64; simp; done) | (simp only; omega)
set_option maxRecDepth 100000 in
set_option maxHeartbeats 8000000 in
theorem wild_row (a : Addr) (cap n : Nat) (rd : Bool) (h2 : n ≤ cap) (h3 : cap ≤ maxLen) (w : World) (h4 : ∀ i, i < n → ∃ x : Int, 0 ≤ x ∧ x ≤ 65535 ∧ w.cell? (a.add i) = some (.int .u16 x)) :
    Calls Try.prog 8 #[.slice (some a) n cap, .bool rd] w (WildedS w) := by
  unfold maxLen at h3
  have h5 : n ≤ 2 ^ 63 - 1 := Nat.le_trans h2 h3
  clear h2 h3
  obtain ⟨i0, hi0, hz0, hz1, hz2⟩ := info_parts secInfo
  go_enter Try.func8, Try.ntmps8
  go_wp2
  go_loopw [5, 6] (fun sv iv wr => ∃ (k : Nat) (ao : Option Addr) (c : Nat), k ≤ 4 ∧ iv = .int .i64 ((5 * k : Nat) : Int) ∧ sv = .slice ao k c ∧
      (∃ l : List Sec, l.length = k ∧ (∀ s ∈ l, wildSec s) ∧ wr.ownsRow w.heap.size 49 6 (.slice ao k c) k (flat l)) ∧ B w wr) (fun _ iv _ => 25 - (intOf iv).toNat)
  case atStart => exact ⟨0, none, 0, by omega, rfl, rfl, ⟨[], rfl, by simp, World.ownsRow_nil _ _ _ _⟩, B.refl _⟩
  case round =>
    obtain ⟨k, ao, c, hk, rfl, rfl, ⟨l, hl, hw, hown⟩, hb⟩ := hrel
    obtain ⟨j0, hj0⟩ : ∃ j, j = 5 * k := ⟨_, rfl⟩
    rw [← hj0]
    by_cases hc : 5 * k + 4 < n ∧ k < 4
    · obtain ⟨hc1, hc2⟩ := hc
      obtain ⟨x0, p0, q0, f0⟩ := h4 j0 (by omega)
      obtain ⟨x1, p1, q1, f1⟩ := h4 (j0 + 1) (by omega)
      obtain ⟨x2, p2, q2, f2⟩ := h4 (j0 + 2) (by omega)
      obtain ⟨x3, p3, q3, f3⟩ := h4 (j0 + 3) (by omega)
      obtain ⟨x4, p4, q4, f4⟩ := h4 (j0 + 4) (by omega)
      replace f0 := hb.keep f0
      replace f1 := hb.keep f1
      replace f2 := hb.keep f2
      replace f3 := hb.keep f3
      replace f4 := hb.keep f4
      obtain ⟨j1, e1, r1, r1', v1⟩ := pick_i j0 1 (by omega) (by omega)
      obtain ⟨j2, e2, r2, r2', v2⟩ := pick_i j0 2 (by omega) (by omega)
      obtain ⟨j3, e3, r3, r3', v3⟩ := pick_i j0 3 (by omega) (by omega)
      obtain ⟨j4, e4, r4, r4', v4⟩ := pick_i j0 4 (by omega) (by omega)
      obtain ⟨j5, e5, r5, r5', v5⟩ := pick_i j0 5 (by omega) (by omega)
      rw [← e1] at f1
      rw [← e2] at f2
      rw [← e3] at f3
      rw [← e4] at f4
      have b0 : (j0 : Int) < (n : Int) := by omega
      have b1 : (j1 : Int) < (n : Int) := by omega
      have b2 : (j2 : Int) < (n : Int) := by omega
      have b3 : (j3 : Int) < (n : Int) := by omega
      have b4 : (j4 : Int) < (n : Int) := by omega
      have g4 : decide (j4 < n) = true := decide_eq_true (by omega)
      have gk : decide ((k : Int) < 4) = true := decide_eq_true (by omega)
      obtain ⟨u, m0, t0, y0, s1, s2, s3, s4, s5, s6, s7, s8⟩ := pick_h x0 p0
      obtain ⟨y1, s9, s10, s11, s12⟩ := pick_a x1 p1
      obtain ⟨m2, y2, s13, s14, s15, s16, s17⟩ := pick_b x2 p2
      obtain ⟨y3, s18, s19, s20, s21⟩ := pick_a x3 p3
      obtain ⟨m4, y4, s22, s23, s24, s25, s26⟩ := pick_b x4 p4
      simp only [Int.natCast_one, show ((2 : Nat) : Int) = 2 from rfl, show ((3 : Nat) : Int) = 3 from rfl, show ((4 : Nat) : Int) = 4 from rfl, show ((5 : Nat) : Int) = 5 from rfl] at r1 r1' r2 r2' r3 r3' r4 r4' r5 r5'
      have HJ := Lib.hid (And.intro hj0 e5)
      have HL := Lib.hid (And.intro hl hc2)
      clear h4 e1 e2 e3 e4 e5 hj0 hl
      have hr : (!rd == (u == 0)) = true ∨ (!rd == (u == 0)) = false := by cases (!rd == (u == 0)) <;> simp
      rcases hr with hr | hr
      · have ws : wildSec ⟨true, y0, y1, 0, y2, 0⟩ := wild_true y0 y1 y2 s6 s7 s8 s11 s12 s16 s17
        have HW := Lib.hid ws
        clear ws
        go_wp2_with fail
        refine wp_region_noPanic ?_
        refine wp_region_seq (S := fun w' => w'.cell? (a.add j0) = some (.int .u16 x0) ∧ w'.cell? (a.add j1) = some (.int .u16 x1) ∧ w'.cell? (a.add j2) = some (.int .u16 x2) ∧ w'.cell? (a.add j3) = some (.int .u16 x3) ∧ w'.cell? (a.add j4) = some (.int .u16 x4)) [(0, 0), (1, 0), (2, 0), (3, 0), (4, 0), (5, 0), (6, 0), (7, 0), (8, 0), (9, 0), (10, 0), (11, 0), (12, 0), (13, 0), (14, 0), (15, 0), (16, 0), (17, 0), (18, 0), (19, 0), (20, 0), (21, 0), (22, 0), (23, 0), (24, 0), (25, 0), (26, 0), (27, 0), (28, 0), (29, 0), (30, 0), (31, 0), (32, 0), (33, 0), (34, 0), (35, 0), (36, 0), (37, 0), (38, 0), (39, 0), (40, 0), (41, 0), (42, 0), (43, 0), (44, 0), (45, 0), (46, 0), (47, 2), (48, 2)] [0, 0, 0, 6, 8, 16, 32, 65, 0, 0, 768, 1024, 2048, 4096, 8192, 16384, 0, 0, 131072, 327680, 524288, 1048576, 2097152, 0, 0, 16777216, 41943040, 67108864, 134217728, 268435456, 536870912, 0, 0, 4294967296, 10737418240, 17179869184, 34359738368, 68719476736, 0, 0, 549755813888, 1374389534720, 2199023255552, 4398046511104, 8796093022208, 17592186044416, 35322889011328, 0, 281474976710655] [0, 0, 0, 6, 8, 16, 32, 65, 0, 0, 768, 1024, 2048, 4096, 8192, 16384, 0, 0, 131072, 327680, 524288, 1048576, 2097152, 0, 0, 16777216, 41943040, 67108864, 134217728, 268435456, 536870912, 0, 0, 4294967296, 10737418240, 17179869184, 34359738368, 68719476736, 0, 0, 549755813888, 1374389534720, 2199023255552, 4398046511104, 8796093022208, 17592186044416, 35322889011328, 0, 211106232532992] (by kernel_rfl) (by kernel_rfl) (fun _ _ _ _ _ h => h) ?_ (fun hH => ?_)
        · exact ⟨by simp [go_sem, f0], by simp [go_sem, f1], by simp [go_sem, f2], by simp [go_sem, f3], by simp [go_sem, f4]⟩
        refine wpSeq_take (d := 20) (v := ?_) rfl rfl (by kernel_rfl) (fun w hS => ?_) ?_
        rotate_left
        · go_simp <;> with_reducible rfl
        dsimp only [List.set_cons_zero, List.set_cons_succ]
        refine wpSeq_take (d := 21) (v := ?_) rfl rfl (by kernel_rfl) (fun w hS => ?_) ?_
        rotate_left
        · go_simp <;> with_reducible rfl
        dsimp only [List.set_cons_zero, List.set_cons_succ]
        refine wpSeq_take (d := 22) (v := ?_) rfl rfl (by kernel_rfl) (fun w hS => ?_) ?_
        rotate_left
        · go_simp <;> with_reducible rfl
        dsimp only [List.set_cons_zero, List.set_cons_succ]
        refine wpSeq_take (d := 23) (v := ?_) rfl rfl (by kernel_rfl) (fun w hS => ?_) ?_
        rotate_left
        · go_simp <;> with_reducible rfl
        dsimp only [List.set_cons_zero, List.set_cons_succ]
        refine wpSeq_take (d := 24) (v := ?_) rfl rfl (by kernel_rfl) (fun w hS => ?_) ?_
        rotate_left
        · go_simp <;> with_reducible rfl
        dsimp only [List.set_cons_zero, List.set_cons_succ]
        refine wpSeq_take (d := 25) (v := ?_) rfl rfl (by kernel_rfl) (fun w hS => ?_) ?_
        rotate_left
        · go_simp <;> with_reducible rfl
        dsimp only [List.set_cons_zero, List.set_cons_succ]
        refine wpSeq_take (d := 26) (v := ?_) rfl rfl (by kernel_rfl) (fun w hS => ?_) ?_
        rotate_left
        · go_simp <;> with_reducible rfl
        dsimp only [List.set_cons_zero, List.set_cons_succ]
        refine wpSeq_take (d := 27) (v := ?_) rfl rfl (by kernel_rfl) (fun w hS => ?_) ?_
        rotate_left
        · go_simp <;> with_reducible rfl
        dsimp only [List.set_cons_zero, List.set_cons_succ]
        refine wpSeq_take (d := 28) (v := ?_) rfl rfl (by kernel_rfl) (fun w hS => ?_) ?_
        rotate_left
        · go_simp <;> with_reducible rfl
        dsimp only [List.set_cons_zero, List.set_cons_succ]
        refine wpSeq_take (d := 29) (v := ?_) rfl rfl (by kernel_rfl) (fun w hS => ?_) ?_
        rotate_left
        · go_simp <;> with_reducible rfl
        dsimp only [List.set_cons_zero, List.set_cons_succ]
        refine wpSeq_take (d := 30) (v := ?_) rfl rfl (by kernel_rfl) (fun w hS => ?_) ?_
        rotate_left
        · go_simp <;> with_reducible rfl
        dsimp only [List.set_cons_zero, List.set_cons_succ]
        refine wpSeq_take (d := 31) (v := ?_) rfl rfl (by kernel_rfl) (fun w hS => ?_) ?_
        rotate_left
        · go_simp <;> with_reducible rfl
        dsimp only [List.set_cons_zero, List.set_cons_succ]
        refine wpSeq_take (d := 32) (v := ?_) rfl rfl (by kernel_rfl) (fun w hS => ?_) ?_
        rotate_left
        · go_simp <;> with_reducible rfl
        dsimp only [List.set_cons_zero, List.set_cons_succ]
        refine wpSeq_take (d := 33) (v := ?_) rfl rfl (by kernel_rfl) (fun w hS => ?_) ?_
        rotate_left
        · go_simp <;> with_reducible rfl
        dsimp only [List.set_cons_zero, List.set_cons_succ]
        refine wpSeq_take (d := 34) (v := ?_) rfl rfl (by kernel_rfl) (fun w hS => ?_) ?_
        rotate_left
        · go_simp <;> with_reducible rfl
        dsimp only [List.set_cons_zero, List.set_cons_succ]
        refine wpSeq_take (d := 35) (v := ?_) rfl rfl (by kernel_rfl) (fun w hS => ?_) ?_
        rotate_left
        · go_simp <;> with_reducible rfl
        dsimp only [List.set_cons_zero, List.set_cons_succ]
        refine wpSeq_take (d := 36) (v := ?_) rfl rfl (by kernel_rfl) (fun w hS => ?_) ?_
        rotate_left
        · go_simp <;> with_reducible rfl
        dsimp only [List.set_cons_zero, List.set_cons_succ]
        refine wpSeq_take (d := 37) (v := ?_) rfl rfl (by kernel_rfl) (fun w hS => ?_) ?_
        rotate_left
        · go_simp <;> with_reducible rfl
        dsimp only [List.set_cons_zero, List.set_cons_succ]
        refine wpSeq_take (d := 38) (v := ?_) rfl rfl (by kernel_rfl) (fun w hS => ?_) ?_
        rotate_left
        · go_simp <;> with_reducible rfl
        dsimp only [List.set_cons_zero, List.set_cons_succ]
        refine wpSeq_take (d := 39) (v := ?_) rfl rfl (by kernel_rfl) (fun w hS => ?_) ?_
        rotate_left
        · go_simp <;> with_reducible rfl
        dsimp only [List.set_cons_zero, List.set_cons_succ]
        refine wpSeq_take (d := 40) (v := ?_) rfl rfl (by kernel_rfl) (fun w hS => ?_) ?_
        rotate_left
        · go_simp <;> with_reducible rfl
        dsimp only [List.set_cons_zero, List.set_cons_succ]
        refine wpSeq_take (d := 41) (v := ?_) rfl rfl (by kernel_rfl) (fun w hS => ?_) ?_
        rotate_left
        · go_simp <;> with_reducible rfl
        dsimp only [List.set_cons_zero, List.set_cons_succ]
        refine wpSeq_take (d := 42) (v := ?_) rfl rfl (by kernel_rfl) (fun w hS => ?_) ?_
        rotate_left
        · go_simp <;> with_reducible rfl
        dsimp only [List.set_cons_zero, List.set_cons_succ]
        refine wpSeq_take (d := 43) (v := ?_) rfl rfl (by kernel_rfl) (fun w hS => ?_) ?_
        rotate_left
        · go_simp <;> with_reducible rfl
        dsimp only [List.set_cons_zero, List.set_cons_succ]
        refine wpSeq_take (d := 44) (v := ?_) rfl rfl (by kernel_rfl) (fun w hS => ?_) ?_
        rotate_left
        · go_simp <;> with_reducible rfl
        dsimp only [List.set_cons_zero, List.set_cons_succ]
        refine wpSeq_take (d := 45) (v := ?_) rfl rfl (by kernel_rfl) (fun w hS => ?_) ?_
        rotate_left
        · go_simp <;> with_reducible rfl
        dsimp only [List.set_cons_zero, List.set_cons_succ]
        refine wpSeq_take (d := 46) (v := ?_) rfl rfl (by kernel_rfl) (fun w hS => ?_) ?_
        rotate_left
        · go_simp <;> with_reducible rfl
        dsimp only [List.set_cons_zero, List.set_cons_succ]
        refine wpSeq_take (d := 47) (v := ?_) rfl rfl (by kernel_rfl) (fun w hS => ?_) ?_
        rotate_left
        · go_simp <;> with_reducible rfl
        dsimp only [List.set_cons_zero, List.set_cons_succ]
        refine wpSeq_take (d := 48) (v := ?_) rfl rfl (by kernel_rfl) (fun w hS => ?_) ?_
        rotate_left
        · go_simp <;> with_reducible rfl
        dsimp only [List.set_cons_zero, List.set_cons_succ]
        refine wpSeq_take (d := 49) (v := ?_) rfl rfl (by kernel_rfl) (fun w hS => ?_) ?_
        rotate_left
        · go_simp <;> with_reducible rfl
        dsimp only [List.set_cons_zero, List.set_cons_succ]
        refine wpSeq_take (d := 50) (v := ?_) rfl rfl (by kernel_rfl) (fun w hS => ?_) ?_
        rotate_left
        · go_simp <;> with_reducible rfl
        dsimp only [List.set_cons_zero, List.set_cons_succ]
        refine wpSeq_take (d := 51) (v := ?_) rfl rfl (by kernel_rfl) (fun w hS => ?_) ?_
        rotate_left
        · go_simp <;> with_reducible rfl
        dsimp only [List.set_cons_zero, List.set_cons_succ]
        refine wpSeq_take (d := 52) (v := ?_) rfl rfl (by kernel_rfl) (fun w hS => ?_) ?_
        rotate_left
        · go_simp <;> with_reducible rfl
        dsimp only [List.set_cons_zero, List.set_cons_succ]
        refine wpSeq_take (d := 53) (v := ?_) rfl rfl (by kernel_rfl) (fun w hS => ?_) ?_
        rotate_left
        · go_simp <;> with_reducible rfl
        dsimp only [List.set_cons_zero, List.set_cons_succ]
        refine wpSeq_take (d := 54) (v := ?_) rfl rfl (by kernel_rfl) (fun w hS => ?_) ?_
        rotate_left
        · go_simp <;> with_reducible rfl
        dsimp only [List.set_cons_zero, List.set_cons_succ]
        refine wpSeq_take (d := 55) (v := ?_) rfl rfl (by kernel_rfl) (fun w hS => ?_) ?_
        rotate_left
        · go_simp <;> with_reducible rfl
        dsimp only [List.set_cons_zero, List.set_cons_succ]
        refine wpSeq_take (d := 56) (v := ?_) rfl rfl (by kernel_rfl) (fun w hS => ?_) ?_
        rotate_left
        · go_simp <;> with_reducible rfl
        dsimp only [List.set_cons_zero, List.set_cons_succ]
        refine wpSeq_take (d := 57) (v := ?_) rfl rfl (by kernel_rfl) (fun w hS => ?_) ?_
        rotate_left
        · go_simp <;> with_reducible rfl
        dsimp only [List.set_cons_zero, List.set_cons_succ]
        refine wpSeq_take (d := 58) (v := ?_) rfl rfl (by kernel_rfl) (fun w hS => ?_) ?_
        rotate_left
        · go_simp <;> with_reducible rfl
        dsimp only [List.set_cons_zero, List.set_cons_succ]
        refine wpSeq_take (d := 59) (v := ?_) rfl rfl (by kernel_rfl) (fun w hS => ?_) ?_
        rotate_left
        · go_simp <;> with_reducible rfl
        dsimp only [List.set_cons_zero, List.set_cons_succ]
        refine wpSeq_take (d := 60) (v := ?_) rfl rfl (by kernel_rfl) (fun w hS => ?_) ?_
        rotate_left
        · go_simp <;> with_reducible rfl
        dsimp only [List.set_cons_zero, List.set_cons_succ]
        refine wpSeq_take (d := 61) (v := ?_) rfl rfl (by kernel_rfl) (fun w hS => ?_) ?_
        rotate_left
        · go_simp <;> with_reducible rfl
        dsimp only [List.set_cons_zero, List.set_cons_succ]
        refine wpSeq_take (d := 62) (v := ?_) rfl rfl (by kernel_rfl) (fun w hS => ?_) ?_
        rotate_left
        · go_simp <;> with_reducible rfl
        dsimp only [List.set_cons_zero, List.set_cons_succ]
        refine wpSeq_take (d := 63) (v := ?_) rfl rfl (by kernel_rfl) (fun w hS => ?_) ?_
        rotate_left
        · go_simp <;> with_reducible rfl
        dsimp only [List.set_cons_zero, List.set_cons_succ]
        refine wpSeq_take (d := 64) (v := ?_) rfl rfl (by kernel_rfl) (fun w hS => ?_) ?_
        rotate_left
        · go_simp <;> with_reducible rfl
        dsimp only [List.set_cons_zero, List.set_cons_succ]
        refine wpSeq_take (d := 65) (v := ?_) rfl rfl (by kernel_rfl) (fun w hS => ?_) ?_
        rotate_left
        · go_simp <;> with_reducible rfl
        dsimp only [List.set_cons_zero, List.set_cons_succ]
        refine wpSeq_take (d := 66) (v := ?_) rfl rfl (by kernel_rfl) (fun w hS => ?_) ?_
        rotate_left
        · go_simp <;> with_reducible rfl
        dsimp only [List.set_cons_zero, List.set_cons_succ]
        refine wpSeq_call rfl (by kernel_rfl) (fun K hK => ?_)
        go_simp
        refine hK.out _ _ ?_ (fun hH => ?_)
        · first | exact ⟨((B.refl _).alloc _ _).keep hH.1, ((B.refl _).alloc _ _).keep hH.2.1, ((B.refl _).alloc _ _).keep hH.2.2.1, ((B.refl _).alloc _ _).keep hH.2.2.2.1, ((B.refl _).alloc _ _).keep hH.2.2.2.2⟩ | exact ⟨(((B.refl wr).alloc _ _).drew).keep f0, (((B.refl wr).alloc _ _).drew).keep f1, (((B.refl wr).alloc _ _).drew).keep f2, (((B.refl wr).alloc _ _).drew).keep f3, (((B.refl wr).alloc _ _).drew).keep f4⟩ | (simp [go_sem, *])
        clear hK
        refine wpSeq_call rfl (by kernel_rfl) (fun K hK => ?_)
        go_simp
        refine hK.out _ _ ?_ (fun hH => ?_)
        · first | exact ⟨((B.refl _).alloc _ _).keep hH.1, ((B.refl _).alloc _ _).keep hH.2.1, ((B.refl _).alloc _ _).keep hH.2.2.1, ((B.refl _).alloc _ _).keep hH.2.2.2.1, ((B.refl _).alloc _ _).keep hH.2.2.2.2⟩ | exact ⟨(((B.refl wr).alloc _ _).drew).keep f0, (((B.refl wr).alloc _ _).drew).keep f1, (((B.refl wr).alloc _ _).drew).keep f2, (((B.refl wr).alloc _ _).drew).keep f3, (((B.refl wr).alloc _ _).drew).keep f4⟩ | (simp [go_sem, *])
        clear hK
        refine wpSeq_done ?_
        refine NoPanic.normal ?_
        clear hH
        go_wp2_with (at_builtin; refine wpList_append_lies _ rfl _ _ 25 rfl w.heap.size 49 i0 _ 6 48 Try.underlying25 hi0 hz0 hz1 hz2 rfl (by omega) (.slice ao k c) k (flat l) rfl (((hown.alloc _).alloc _).drew) ⟨wr.heap.size + 1, 0, none⟩ 1 1 [.bool true, .int .i64 y0, .int .i64 y1, .int .i64 0, .int .i64 y2, .int .i64 0] rfl rfl (news_alloc (by simp)) (by simp [Value.oneCell']) (by omega) (by unfold maxLen; omega) (by omega) (by have := hb.below.size; simp; omega) (wr.heap.size + 1 + 1) (by simp) ?_; intro g cp w1 hown1 hgrow hat hlt)
        go_wp2
        go_roundw
        case rel =>
          obtain ⟨hl, _⟩ := HL.out
          refine ⟨k + 1, some ⟨g, 0, none⟩, cp, by omega, ?_, rfl, ⟨l ++ [⟨true, y0, y1, 0, y2, 0⟩], by simp [hl], ?_, ?_⟩, ?_⟩
          · obtain ⟨hj, hj'⟩ := HJ.out
            rw [show 5 * (k + 1) = j5 by omega]
          · intro s hs
            rcases List.mem_append.1 hs with h | h
            · exact hw s h
            · rw [List.mem_singleton.1 h]; exact HW.out
          · rw [flat_snoc]; exact hown1
          · exact (((hb.alloc _ _).alloc _ _).drew).grownBy hgrow (fun b hb' => (hown.lt b hb').1)
        case measure =>
          obtain ⟨hj, hj'⟩ := HJ.out
          simp [intOf]; omega
      · have ws : wildSec ⟨false, y0, y1, y3, y2, y4⟩ := wild_false y0 y1 y2 y3 y4 s6 s7 s8 s11 s12 s16 s17 s20 s21 s25 s26
        have HW := Lib.hid ws
        clear ws
        go_wp2_with fail
        refine wp_region_noPanic ?_
        refine wp_region_seq (S := fun w' => w'.cell? (a.add j0) = some (.int .u16 x0) ∧ w'.cell? (a.add j1) = some (.int .u16 x1) ∧ w'.cell? (a.add j2) = some (.int .u16 x2) ∧ w'.cell? (a.add j3) = some (.int .u16 x3) ∧ w'.cell? (a.add j4) = some (.int .u16 x4)) [(0, 0), (1, 0), (2, 0), (3, 0), (4, 0), (5, 0), (6, 0), (7, 0), (8, 0), (9, 0), (10, 0), (11, 0), (12, 0), (13, 0), (14, 0), (15, 0), (16, 0), (17, 0), (18, 0), (19, 0), (20, 0), (21, 0), (22, 0), (23, 0), (24, 0), (25, 0), (26, 0), (27, 0), (28, 0), (29, 0), (30, 0), (31, 0), (32, 0), (33, 0), (34, 0), (35, 0), (36, 0), (37, 0), (38, 0), (39, 0), (40, 0), (41, 0), (42, 0), (43, 0), (44, 0), (45, 0), (46, 0), (47, 2), (48, 2)] [0, 0, 0, 6, 8, 16, 32, 65, 0, 0, 768, 1024, 2048, 4096, 8192, 16384, 0, 0, 131072, 327680, 524288, 1048576, 2097152, 0, 0, 16777216, 41943040, 67108864, 134217728, 268435456, 536870912, 0, 0, 4294967296, 10737418240, 17179869184, 34359738368, 68719476736, 0, 0, 549755813888, 1374389534720, 2199023255552, 4398046511104, 8796093022208, 17592186044416, 35322889011328, 0, 281474976710655] [0, 0, 0, 6, 8, 16, 32, 65, 0, 0, 768, 1024, 2048, 4096, 8192, 16384, 0, 0, 131072, 327680, 524288, 1048576, 2097152, 0, 0, 16777216, 41943040, 67108864, 134217728, 268435456, 536870912, 0, 0, 4294967296, 10737418240, 17179869184, 34359738368, 68719476736, 0, 0, 549755813888, 1374389534720, 2199023255552, 4398046511104, 8796093022208, 17592186044416, 35322889011328, 0, 211106232532992] (by kernel_rfl) (by kernel_rfl) (fun _ _ _ _ _ h => h) ?_ (fun hH => ?_)
        · exact ⟨by simp [go_sem, f0], by simp [go_sem, f1], by simp [go_sem, f2], by simp [go_sem, f3], by simp [go_sem, f4]⟩
        refine wpSeq_take (d := 20) (v := ?_) rfl rfl (by kernel_rfl) (fun w hS => ?_) ?_
        rotate_left
        · go_simp <;> with_reducible rfl
        dsimp only [List.set_cons_zero, List.set_cons_succ]
        refine wpSeq_take (d := 21) (v := ?_) rfl rfl (by kernel_rfl) (fun w hS => ?_) ?_
        rotate_left
        · go_simp <;> with_reducible rfl
        dsimp only [List.set_cons_zero, List.set_cons_succ]
        refine wpSeq_take (d := 22) (v := ?_) rfl rfl (by kernel_rfl) (fun w hS => ?_) ?_
        rotate_left
        · go_simp <;> with_reducible rfl
        dsimp only [List.set_cons_zero, List.set_cons_succ]
        refine wpSeq_take (d := 23) (v := ?_) rfl rfl (by kernel_rfl) (fun w hS => ?_) ?_
        rotate_left
        · go_simp <;> with_reducible rfl
        dsimp only [List.set_cons_zero, List.set_cons_succ]
        refine wpSeq_take (d := 24) (v := ?_) rfl rfl (by kernel_rfl) (fun w hS => ?_) ?_
        rotate_left
        · go_simp <;> with_reducible rfl
        dsimp only [List.set_cons_zero, List.set_cons_succ]
        refine wpSeq_take (d := 25) (v := ?_) rfl rfl (by kernel_rfl) (fun w hS => ?_) ?_
        rotate_left
        · go_simp <;> with_reducible rfl
        dsimp only [List.set_cons_zero, List.set_cons_succ]
        refine wpSeq_take (d := 26) (v := ?_) rfl rfl (by kernel_rfl) (fun w hS => ?_) ?_
        rotate_left
        · go_simp <;> with_reducible rfl
        dsimp only [List.set_cons_zero, List.set_cons_succ]
        refine wpSeq_take (d := 27) (v := ?_) rfl rfl (by kernel_rfl) (fun w hS => ?_) ?_
        rotate_left
        · go_simp <;> with_reducible rfl
        dsimp only [List.set_cons_zero, List.set_cons_succ]
        refine wpSeq_take (d := 28) (v := ?_) rfl rfl (by kernel_rfl) (fun w hS => ?_) ?_
        rotate_left
        · go_simp <;> with_reducible rfl
        dsimp only [List.set_cons_zero, List.set_cons_succ]
        refine wpSeq_take (d := 29) (v := ?_) rfl rfl (by kernel_rfl) (fun w hS => ?_) ?_
        rotate_left
        · go_simp <;> with_reducible rfl
        dsimp only [List.set_cons_zero, List.set_cons_succ]
        refine wpSeq_take (d := 30) (v := ?_) rfl rfl (by kernel_rfl) (fun w hS => ?_) ?_
        rotate_left
        · go_simp <;> with_reducible rfl
        dsimp only [List.set_cons_zero, List.set_cons_succ]
        refine wpSeq_take (d := 31) (v := ?_) rfl rfl (by kernel_rfl) (fun w hS => ?_) ?_
        rotate_left
        · go_simp <;> with_reducible rfl
        dsimp only [List.set_cons_zero, List.set_cons_succ]
        refine wpSeq_take (d := 32) (v := ?_) rfl rfl (by kernel_rfl) (fun w hS => ?_) ?_
        rotate_left
        · go_simp <;> with_reducible rfl
        dsimp only [List.set_cons_zero, List.set_cons_succ]
        refine wpSeq_take (d := 33) (v := ?_) rfl rfl (by kernel_rfl) (fun w hS => ?_) ?_
        rotate_left
        · go_simp <;> with_reducible rfl
        dsimp only [List.set_cons_zero, List.set_cons_succ]
        refine wpSeq_take (d := 34) (v := ?_) rfl rfl (by kernel_rfl) (fun w hS => ?_) ?_
        rotate_left
        · go_simp <;> with_reducible rfl
        dsimp only [List.set_cons_zero, List.set_cons_succ]
        refine wpSeq_take (d := 35) (v := ?_) rfl rfl (by kernel_rfl) (fun w hS => ?_) ?_
        rotate_left
        · go_simp <;> with_reducible rfl
        dsimp only [List.set_cons_zero, List.set_cons_succ]
        refine wpSeq_take (d := 36) (v := ?_) rfl rfl (by kernel_rfl) (fun w hS => ?_) ?_
        rotate_left
        · go_simp <;> with_reducible rfl
        dsimp only [List.set_cons_zero, List.set_cons_succ]
        refine wpSeq_take (d := 37) (v := ?_) rfl rfl (by kernel_rfl) (fun w hS => ?_) ?_
        rotate_left
        · go_simp <;> with_reducible rfl
        dsimp only [List.set_cons_zero, List.set_cons_succ]
        refine wpSeq_take (d := 38) (v := ?_) rfl rfl (by kernel_rfl) (fun w hS => ?_) ?_
        rotate_left
        · go_simp <;> with_reducible rfl
        dsimp only [List.set_cons_zero, List.set_cons_succ]
        refine wpSeq_take (d := 39) (v := ?_) rfl rfl (by kernel_rfl) (fun w hS => ?_) ?_
        rotate_left
        · go_simp <;> with_reducible rfl
        dsimp only [List.set_cons_zero, List.set_cons_succ]
        refine wpSeq_take (d := 40) (v := ?_) rfl rfl (by kernel_rfl) (fun w hS => ?_) ?_
        rotate_left
        · go_simp <;> with_reducible rfl
        dsimp only [List.set_cons_zero, List.set_cons_succ]
        refine wpSeq_take (d := 41) (v := ?_) rfl rfl (by kernel_rfl) (fun w hS => ?_) ?_
        rotate_left
        · go_simp <;> with_reducible rfl
        dsimp only [List.set_cons_zero, List.set_cons_succ]
        refine wpSeq_take (d := 42) (v := ?_) rfl rfl (by kernel_rfl) (fun w hS => ?_) ?_
        rotate_left
        · go_simp <;> with_reducible rfl
        dsimp only [List.set_cons_zero, List.set_cons_succ]
        refine wpSeq_take (d := 43) (v := ?_) rfl rfl (by kernel_rfl) (fun w hS => ?_) ?_
        rotate_left
        · go_simp <;> with_reducible rfl
        dsimp only [List.set_cons_zero, List.set_cons_succ]
        refine wpSeq_take (d := 44) (v := ?_) rfl rfl (by kernel_rfl) (fun w hS => ?_) ?_
        rotate_left
        · go_simp <;> with_reducible rfl
        dsimp only [List.set_cons_zero, List.set_cons_succ]
        refine wpSeq_take (d := 45) (v := ?_) rfl rfl (by kernel_rfl) (fun w hS => ?_) ?_
        rotate_left
        · go_simp <;> with_reducible rfl
        dsimp only [List.set_cons_zero, List.set_cons_succ]
        refine wpSeq_take (d := 46) (v := ?_) rfl rfl (by kernel_rfl) (fun w hS => ?_) ?_
        rotate_left
        · go_simp <;> with_reducible rfl
        dsimp only [List.set_cons_zero, List.set_cons_succ]
        refine wpSeq_take (d := 47) (v := ?_) rfl rfl (by kernel_rfl) (fun w hS => ?_) ?_
        rotate_left
        · go_simp <;> with_reducible rfl
        dsimp only [List.set_cons_zero, List.set_cons_succ]
        refine wpSeq_take (d := 48) (v := ?_) rfl rfl (by kernel_rfl) (fun w hS => ?_) ?_
        rotate_left
        · go_simp <;> with_reducible rfl
        dsimp only [List.set_cons_zero, List.set_cons_succ]
        refine wpSeq_take (d := 49) (v := ?_) rfl rfl (by kernel_rfl) (fun w hS => ?_) ?_
        rotate_left
        · go_simp <;> with_reducible rfl
        dsimp only [List.set_cons_zero, List.set_cons_succ]
        refine wpSeq_take (d := 50) (v := ?_) rfl rfl (by kernel_rfl) (fun w hS => ?_) ?_
        rotate_left
        · go_simp <;> with_reducible rfl
        dsimp only [List.set_cons_zero, List.set_cons_succ]
        refine wpSeq_take (d := 51) (v := ?_) rfl rfl (by kernel_rfl) (fun w hS => ?_) ?_
        rotate_left
        · go_simp <;> with_reducible rfl
        dsimp only [List.set_cons_zero, List.set_cons_succ]
        refine wpSeq_take (d := 52) (v := ?_) rfl rfl (by kernel_rfl) (fun w hS => ?_) ?_
        rotate_left
        · go_simp <;> with_reducible rfl
        dsimp only [List.set_cons_zero, List.set_cons_succ]
        refine wpSeq_take (d := 53) (v := ?_) rfl rfl (by kernel_rfl) (fun w hS => ?_) ?_
        rotate_left
        · go_simp <;> with_reducible rfl
        dsimp only [List.set_cons_zero, List.set_cons_succ]
        refine wpSeq_take (d := 54) (v := ?_) rfl rfl (by kernel_rfl) (fun w hS => ?_) ?_
        rotate_left
        · go_simp <;> with_reducible rfl
        dsimp only [List.set_cons_zero, List.set_cons_succ]
        refine wpSeq_take (d := 55) (v := ?_) rfl rfl (by kernel_rfl) (fun w hS => ?_) ?_
        rotate_left
        · go_simp <;> with_reducible rfl
        dsimp only [List.set_cons_zero, List.set_cons_succ]
        refine wpSeq_take (d := 56) (v := ?_) rfl rfl (by kernel_rfl) (fun w hS => ?_) ?_
        rotate_left
        · go_simp <;> with_reducible rfl
        dsimp only [List.set_cons_zero, List.set_cons_succ]
        refine wpSeq_take (d := 57) (v := ?_) rfl rfl (by kernel_rfl) (fun w hS => ?_) ?_
        rotate_left
        · go_simp <;> with_reducible rfl
        dsimp only [List.set_cons_zero, List.set_cons_succ]
        refine wpSeq_take (d := 58) (v := ?_) rfl rfl (by kernel_rfl) (fun w hS => ?_) ?_
        rotate_left
        · go_simp <;> with_reducible rfl
        dsimp only [List.set_cons_zero, List.set_cons_succ]
        refine wpSeq_take (d := 59) (v := ?_) rfl rfl (by kernel_rfl) (fun w hS => ?_) ?_
        rotate_left
        · go_simp <;> with_reducible rfl
        dsimp only [List.set_cons_zero, List.set_cons_succ]
        refine wpSeq_take (d := 60) (v := ?_) rfl rfl (by kernel_rfl) (fun w hS => ?_) ?_
        rotate_left
        · go_simp <;> with_reducible rfl
        dsimp only [List.set_cons_zero, List.set_cons_succ]
        refine wpSeq_take (d := 61) (v := ?_) rfl rfl (by kernel_rfl) (fun w hS => ?_) ?_
        rotate_left
        · go_simp <;> with_reducible rfl
        dsimp only [List.set_cons_zero, List.set_cons_succ]
        refine wpSeq_take (d := 62) (v := ?_) rfl rfl (by kernel_rfl) (fun w hS => ?_) ?_
        rotate_left
        · go_simp <;> with_reducible rfl
        dsimp only [List.set_cons_zero, List.set_cons_succ]
        refine wpSeq_take (d := 63) (v := ?_) rfl rfl (by kernel_rfl) (fun w hS => ?_) ?_
        rotate_left
        · go_simp <;> with_reducible rfl
        dsimp only [List.set_cons_zero, List.set_cons_succ]
        refine wpSeq_take (d := 64) (v := ?_) rfl rfl (by kernel_rfl) (fun w hS => ?_) ?_
        rotate_left
        · go_simp <;> with_reducible rfl
        dsimp only [List.set_cons_zero, List.set_cons_succ]
        refine wpSeq_take (d := 65) (v := ?_) rfl rfl (by kernel_rfl) (fun w hS => ?_) ?_
        rotate_left
        · go_simp <;> with_reducible rfl
        dsimp only [List.set_cons_zero, List.set_cons_succ]
        refine wpSeq_take (d := 66) (v := ?_) rfl rfl (by kernel_rfl) (fun w hS => ?_) ?_
        rotate_left
        · go_simp <;> with_reducible rfl
        dsimp only [List.set_cons_zero, List.set_cons_succ]
        refine wpSeq_call rfl (by kernel_rfl) (fun K hK => ?_)
        go_simp
        refine hK.out _ _ ?_ (fun hH => ?_)
        · first | exact ⟨((B.refl _).alloc _ _).keep hH.1, ((B.refl _).alloc _ _).keep hH.2.1, ((B.refl _).alloc _ _).keep hH.2.2.1, ((B.refl _).alloc _ _).keep hH.2.2.2.1, ((B.refl _).alloc _ _).keep hH.2.2.2.2⟩ | exact ⟨(((B.refl wr).alloc _ _).drew).keep f0, (((B.refl wr).alloc _ _).drew).keep f1, (((B.refl wr).alloc _ _).drew).keep f2, (((B.refl wr).alloc _ _).drew).keep f3, (((B.refl wr).alloc _ _).drew).keep f4⟩ | (simp [go_sem, *])
        clear hK
        refine wpSeq_call rfl (by kernel_rfl) (fun K hK => ?_)
        go_simp
        refine hK.out _ _ ?_ (fun hH => ?_)
        · first | exact ⟨((B.refl _).alloc _ _).keep hH.1, ((B.refl _).alloc _ _).keep hH.2.1, ((B.refl _).alloc _ _).keep hH.2.2.1, ((B.refl _).alloc _ _).keep hH.2.2.2.1, ((B.refl _).alloc _ _).keep hH.2.2.2.2⟩ | exact ⟨(((B.refl wr).alloc _ _).drew).keep f0, (((B.refl wr).alloc _ _).drew).keep f1, (((B.refl wr).alloc _ _).drew).keep f2, (((B.refl wr).alloc _ _).drew).keep f3, (((B.refl wr).alloc _ _).drew).keep f4⟩ | (simp [go_sem, *])
        clear hK
        refine wpSeq_done ?_
        refine NoPanic.normal ?_
        clear hH
        go_wp2_with (at_builtin; refine wpList_append_lies _ rfl _ _ 25 rfl w.heap.size 49 i0 _ 6 48 Try.underlying25 hi0 hz0 hz1 hz2 rfl (by omega) (.slice ao k c) k (flat l) rfl (((hown.alloc _).alloc _).drew) ⟨wr.heap.size + 1, 0, none⟩ 1 1 [.bool false, .int .i64 y0, .int .i64 y1, .int .i64 y3, .int .i64 y2, .int .i64 y4] rfl rfl (news_alloc (by simp)) (by simp [Value.oneCell']) (by omega) (by unfold maxLen; omega) (by omega) (by have := hb.below.size; simp; omega) (wr.heap.size + 1 + 1) (by simp) ?_; intro g cp w1 hown1 hgrow hat hlt)
        go_wp2
        go_roundw
        case rel =>
          obtain ⟨hl, _⟩ := HL.out
          refine ⟨k + 1, some ⟨g, 0, none⟩, cp, by omega, ?_, rfl, ⟨l ++ [⟨false, y0, y1, y3, y2, y4⟩], by simp [hl], ?_, ?_⟩, ?_⟩
          · obtain ⟨hj, hj'⟩ := HJ.out
            rw [show 5 * (k + 1) = j5 by omega]
          · intro s hs
            rcases List.mem_append.1 hs with h | h
            · exact hw s h
            · rw [List.mem_singleton.1 h]; exact HW.out
          · rw [flat_snoc]; exact hown1
          · exact (((hb.alloc _ _).alloc _ _).drew).grownBy hgrow (fun b hb' => (hown.lt b hb').1)
        case measure =>
          obtain ⟨hj, hj'⟩ := HJ.out
          simp [intOf]; omega
    · have HK : k ≤ 4 := hk
      have v4 : IntKind.i64.wrap ((j0 : Int) + 4) = ((j0 + 4 : Nat) : Int) ∧ (j0 : Int) + 4 = ((j0 + 4 : Nat) : Int) := ⟨by rw [wrapI (by omega) (by omega)]; omega, by omega⟩
      obtain ⟨v5, v6⟩ := v4
      by_cases hk0 : k = 0
      · subst hk0
        have g4 : decide (j0 + 4 < n) = false := decide_eq_false (by omega)
        obtain ⟨j4, e4⟩ : ∃ j, j0 + 4 = j := ⟨_, rfl⟩
        rw [e4] at v5 v6 g4
        have v7 : wrap64 (j4 : Int) = (j4 : Int) := by unfold wrap64; omega
        have b4 : (n : Int) ≤ (j4 : Int) := by omega
        have g4' : decide ((j4 : Int) < (n : Int)) = false := decide_eq_false (by omega)
        have cS := fun w => shape_any 0 (by decide) (by decide) w
        have HB := Lib.hid hb
        clear h4 hw hown hc hj0 hk HK e4 hb
        go_wp2_with fail
        refine (cS _).mono ?_
        rintro e w1 ⟨v, rfl, hv, hq⟩
        go_wp2
        go_ret
        exact ⟨v, _, rfl, hv, by decide, shape0_sides, HB.out.trans hq.b⟩
      · have hk0' : ((k : Int) == 0) = false := by rw [beq_eq_false_iff_ne]; omega
        have HS : Hid (IsSecs wr (.slice ao k c) l) := Lib.hid (secs_own hown hl (by omega) (fun s hs => (hw s hs).2.2.1))
        have HR := Lib.hid (And.intro (wild_right l (by omega) (by omega) hw) (fun s hs => (hw s hs).2.2))
        have HB := Lib.hid hb
        by_cases g : 5 * k + 4 < n
        · have g4 : decide (j0 + 4 < n) = true := decide_eq_true (by omega)
          have gk : decide ((k : Int) < 4) = false := decide_eq_false (by omega)
          obtain ⟨j4, e4⟩ : ∃ j, j0 + 4 = j := ⟨_, rfl⟩
          rw [e4] at v5 v6 g4
          have v7 : wrap64 (j4 : Int) = (j4 : Int) := by unfold wrap64; omega
          clear h4 hw hown hc hj0 hk HK e4 g hl hb hk0
          go_wp2
          go_ret
          exact ⟨_, l, rfl, HS.out, HR.out.1, HR.out.2, HB.out⟩
        · have g4 : decide (j0 + 4 < n) = false := decide_eq_false (by omega)
          obtain ⟨j4, e4⟩ : ∃ j, j0 + 4 = j := ⟨_, rfl⟩
          rw [e4] at v5 v6 g4
          have v7 : wrap64 (j4 : Int) = (j4 : Int) := by unfold wrap64; omega
          have b4 : (n : Int) ≤ (j4 : Int) := by omega
          clear h4 hw hown hc hj0 hk HK e4 g hl hb hk0
          go_wp2
          go_ret
          exact ⟨_, l, rfl, HS.out, HR.out.1, HR.out.2, HB.out⟩
set_option maxRecDepth 100000 in
theorem wild_sides (v : Value) (n : Nat) (rd : Bool) (w : World) (hv : IsU16 w v n) :
    Calls Try.prog 8 #[v, .bool rd] w (WildedS w) := by
  rcases hv with ⟨rfl, rfl⟩ | ⟨a, cap, rfl, h2, h3, h4⟩
  · have cS := fun w => shape_any 0 (by decide) (by decide) w
    go_enter Try.func8, Try.ntmps8
    go_wp2
    go_loop [5, 6] (fun sv iv => sv = .slice none 0 0 ∧ iv = .int .i64 0) (fun _ _ => 0)
    case atStart => exact ⟨rfl, rfl⟩
    case round =>
      obtain ⟨rfl, rfl⟩ := hrel
      go_wp2_with fail
      refine (cS _).mono ?_
      rintro e w1 ⟨v, rfl, hv, hq⟩
      go_wp2
      go_ret
      exact ⟨v, _, rfl, hv, by decide, shape0_sides, hq.b⟩
  · exact wild_row a cap n rd h2 h3 w h4
theorem wild_any (v : Value) (n : Nat) (rd : Bool) (w : World) (hv : IsU16 w v n) :
    Calls Try.prog 8 #[v, .bool rd] w (Wilded w) :=
  (wild_sides v n rd w hv).mono fun _ _ ⟨v, l, h1, h2, h3, _, h5⟩ => ⟨v, l, h1, h2, h3, h5⟩
end Go.Proofs.Ytglniapfnhedoaa

namespace Go.Proofs.Ytglniapfnhedoaa
open Go.RowKit
theorem u32_wf {k : Int} (w : (Lit.int .u32 k).wf = true) : 0 ≤ k ∧ k ≤ 4294967295 := by
  simp [Lit.wf, IntKind.min, IntKind.max, IntKind.signed, IntKind.bits] at w
  omega
theorem wrapU32 {x : Int} (h0 : 0 ≤ x) (h1 : x ≤ 4294967295) : IntKind.u32.wrap x = x := by
  rw [IntKind.wrap_u32]; omega
end Go.Proofs.Ytglniapfnhedoaa

namespace Go.Proofs.Ytglniapfnhedoaa
open Go.RowKit
theorem slAll_pos {l : List Sec} (hr : rightS l = true) : 1 ≤ (slAll l).length := by
  obtain ⟨hl1, hl4, hok⟩ := right_all hr
  obtain ⟨s, l', rfl⟩ : ∃ s l', l = s :: l' := by
    cases l with
    | nil => simp at hl1
    | cons s l' => exact ⟨s, l', rfl⟩
  have h0 := hok s List.mem_cons_self
  have h1 := secOk_h s h0
  have h2 := secOk_mod h0
  show 1 ≤ (slOf s ++ slAll l').length
  rw [List.length_append, slOf_len]
  omega
end Go.Proofs.Ytglniapfnhedoaa
