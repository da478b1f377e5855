/-
  Layer 16's document: parts of a volume, strokes of a part, how many in all; Two rows of the same numbers are alike; Steps in a row that the call owns. No program is named here; Contract of the document's Dec: a number's digits; Texts put together; The statements' steps of pieces: right ones. No program is named here but for the deck's own texts; The statements' well of a number.
-/
import Derived.Deep.QuietTactic
import Derived.BigQuiet
import Derived.Lib.MinMax
import Derived.Test.YtnmcgleanpdlmaaChecked
import Derived.Lib.Hide
import Derived.Lib.ItoaLen
import Derived.Laws.Strings2
import Derived.KernelRfl
import Derived.Laws.Slices
import Derived.Test.YtnmcgleanpdlmaaY1
import Derived.Test.YtnmcgleanpdlmaaY2
import Derived.Test.YtnmcgleanpdlmaaY3
import Derived.Test.YtnmcgleanpdlmaaY4
import Derived.Test.YtnmcgleanpdlmaaY5
import Derived.Test.YtnmcgleanpdlmaaY6
import Derived.Test.YtnmcgleanpdlmaaY7
import Derived.Test.YtnmcgleanpdlmaaY8
import Derived.Test.YtnmcgleanpdlmaaY9
import Derived.Test.YtnmcgleanpdlmaaY10
import Derived.Test.YtnmcgleanpdlmaaY11
import Derived.Test.YtnmcgleanpdlmaaY12
import Derived.Test.YtnmcgleanpdlmaaY13
import Derived.Test.YtnmcgleanpdlmaaY14
import Derived.Test.YtnmcgleanpdlmaaY16
import Derived.Test.YtnmcgleanpdlmaaY17
import Derived.Test.YtnmcgleanpdlmaaY18
namespace Go.Proofs.Ytnmcgleanpdlmaa
open Go.RowKit
set_option linter.unusedVariables false
/-- A row of 64-bit numbers that a call made. -/
def RowZ (w : World) (base : Nat) (v : Value) (l : List Int) : Prop := ∃ o c, v = .slice o l.length c ∧ w.ownsRow base 2 1 (.slice o l.length c) l.length (flatL l)
theorem RowZ.keep {w w' : World} {base : Nat} {v : Value} {l : List Int} (h : RowZ w base v l) (q : B w w') : RowZ w' base v l := by
  obtain ⟨o, c, h1, h2⟩ := h
  exact ⟨o, c, h1, own_keepBx h2 q⟩
theorem RowZ.low {w : World} {b1 b2 : Nat} {v : Value} {l : List Int} (h : RowZ w b1 v l) (hb : b2 ≤ b1) : RowZ w b2 v l := by
  obtain ⟨o, c, h1, h2⟩ := h
  exact ⟨o, c, h1, own_low h2 hb⟩
theorem rowZ_nil (w : World) (base : Nat) : RowZ w base (.slice none 0 0) [] := ⟨none, 0, rfl, World.ownsRow_nil _ _ _ _⟩
set_option maxRecDepth 100000 in
set_option maxHeartbeats 2000000 in
theorem r11even_any (v : Int) (n : Nat) (hv : 0 ≤ v ∧ v ≤ 20000000) (hn : n ≤ 1000) (w : World) :
    Calls Try.prog 49 #[.int .i64 v, .int .i64 (n : Int)] w fun e w' => ∃ s, e = .returned s ∧ RowZ w' w.heap.size s (evenL v n) ∧ B w w' := by
  obtain ⟨i0, hi0, hz0, hz1, hz2⟩ := info_of longInfo
  have hL := evenL_len v n
  obtain ⟨EL, hEL⟩ : ∃ EL, evenL v n = EL := ⟨_, rfl⟩
  have HT := Lib.hid (fun i (h : i < n) => hEL ▸ evenL_take v h)
  have HL := Lib.hid (hEL ▸ hL)
  rw [hEL]
  have hbz := Nat.le_refl w.heap.size
  clear hEL hL
  go_enter Try.func49, Try.ntmps49
  go_wp2_with fail
  go_loopw [5, 6] (fun sv iv wr => ∃ (i : Nat) (so : Option Addr) (sc : Nat), i ≤ n ∧ sv = .slice so i sc ∧ iv = .int .i64 i ∧ wr.ownsRow w.heap.size 2 1 (.slice so i sc) i (flatL (EL.take i)) ∧ B w wr) (fun _ iv _ => n + 1 - (intOf iv).toNat)
  case atStart => exact ⟨0, none, 0, Nat.zero_le _, rfl, rfl, World.ownsRow_nil _ _ _ _, B.refl _⟩
  case round =>
    obtain ⟨i, so, sc, hi, rfl, rfl, hown, q⟩ := hrel
    obtain ⟨wo, rfl⟩ : ∃ wo : World, wo = wr := ⟨_, rfl⟩
    by_cases hl : i < n
    · have hlB : decide ((i : Int) < (n : Int)) = true := decide_eq_true (by omega)
      have hlN : decide (i < n) = true := decide_eq_true hl
      have wk1 : IntKind.i64.wrap ((i : Int) + 1) = (i : Int) + 1 := by rw [IntKind.wrap_i64]; omega
      have hn0 : ¬ (n : Int) = 0 := by omega
      have hn0' : ¬ n = 0 := by omega
      have hb3 := q.below.size
      have hi9 : i < 1000 := by omega
      obtain ⟨D, hD⟩ : ∃ D, v.tdiv (n : Int) = D := ⟨_, rfl⟩
      obtain ⟨M, hM⟩ : ∃ M, v.tmod (n : Int) = M := ⟨_, rfl⟩
      have hDb : 0 ≤ D ∧ D ≤ 20000000 := by
        rw [← hD, Int.tdiv_eq_ediv_of_nonneg (by omega)]
        exact ⟨Int.ediv_nonneg (by omega) (by omega), Int.le_trans (Int.ediv_le_self _ (by omega)) hv.2⟩
      have hMb : 0 ≤ M ∧ M < (n : Int) := by
        rw [← hM, Int.tmod_eq_emod_of_nonneg (by omega)]
        exact ⟨Int.emod_nonneg _ (by omega), Int.emod_lt_of_pos _ (by omega)⟩
      have y1 : IntKind.i64.wrap D = D := by rw [IntKind.wrap_i64]; omega
      have y2 : IntKind.i64.wrap M = M := by rw [IntKind.wrap_i64]; omega
      have ht := HT.out i hl
      have hev : evenAt v n i = if (i : Int) < M then D + 1 else D := by unfold evenAt; rw [hD, hM]
      rw [hev] at ht
      by_cases hlt : (i : Int) < M
      · have hltB : decide ((i : Int) < M) = true := decide_eq_true hlt
        rw [if_pos hlt] at ht
        obtain ⟨D1, hD1⟩ : ∃ D1, D + 1 = D1 := ⟨_, rfl⟩
        have y3 : IntKind.i64.wrap (D + 1) = D1 := by rw [IntKind.wrap_i64]; omega
        rw [hD1] at ht
        have HX := Lib.hid (And.intro ht (And.intro hl q))
        clear ht hl hi hlt hev hD1 hMb hDb
        go_wp2_with (at_builtin; refine wpList_append_lies _ rfl _ _ 43 rfl w.heap.size 2 i0 _ 1 8 Try.underlying43 hi0 hz0 hz1 hz2 rfl (by omega) (.slice so i sc) i (flatL (EL.take i)) rfl (own_keepBx hown ((B.refl wo).alloc #[.int .i64 D1] 2)) ⟨_, 0, none⟩ 1 1 [.int .i64 D1] rfl rfl (newest (by simp)) (fun u hu => by simp only [List.mem_cons, List.not_mem_nil, or_false] at hu; subst hu; rfl) (by omega) (by unfold maxLen; omega) (by omega) (by have := ((B.refl wo).alloc #[.int .i64 D1] 2).below.size; omega) _ rfl ?_; intro g1 c1 W4 hown4 hgrow4 hat4 hlt4; have hB4 := (HX.out.2.2.alloc #[.int .i64 D1] 2).grownBy hgrow4 (fun x hx => (hown.lt x hx).1); replace hown4 := Lib.hid (And.intro hown4 hB4); clear hgrow4 hat4 hlt4 hown hB4; go_wp2_with fail)
        go_roundw
        case rel => exact ⟨i + 1, _, _, by have := HX.out.2.1; omega, rfl, by go_num, by rw [HX.out.1]; unfold flatL; rw [List.map_append]; exact hown4.out.1, hown4.out.2⟩
        case measure => have := HX.out.2.1; simp [intOf]; omega
      · have hltB : decide ((i : Int) < M) = false := decide_eq_false hlt
        rw [if_neg hlt] at ht
        have HX := Lib.hid (And.intro ht (And.intro hl q))
        clear ht hl hi hlt hev hMb hDb
        go_wp2_with (at_builtin; refine wpList_append_lies _ rfl _ _ 43 rfl w.heap.size 2 i0 _ 1 8 Try.underlying43 hi0 hz0 hz1 hz2 rfl (by omega) (.slice so i sc) i (flatL (EL.take i)) rfl (own_keepBx hown ((B.refl wo).alloc #[.int .i64 D] 2)) ⟨_, 0, none⟩ 1 1 [.int .i64 D] rfl rfl (newest (by simp)) (fun u hu => by simp only [List.mem_cons, List.not_mem_nil, or_false] at hu; subst hu; rfl) (by omega) (by unfold maxLen; omega) (by omega) (by have := ((B.refl wo).alloc #[.int .i64 D] 2).below.size; omega) _ rfl ?_; intro g1 c1 W4 hown4 hgrow4 hat4 hlt4; have hB4 := (HX.out.2.2.alloc #[.int .i64 D] 2).grownBy hgrow4 (fun x hx => (hown.lt x hx).1); replace hown4 := Lib.hid (And.intro hown4 hB4); clear hgrow4 hat4 hlt4 hown hB4; go_wp2_with fail)
        go_roundw
        case rel => exact ⟨i + 1, _, _, by have := HX.out.2.1; omega, rfl, by go_num, by rw [HX.out.1]; unfold flatL; rw [List.map_append]; exact hown4.out.1, hown4.out.2⟩
        case measure => have := HX.out.2.1; simp [intOf]; omega
    · have hlB : decide ((i : Int) < (n : Int)) = false := decide_eq_false (by omega)
      have hlN : decide (i < n) = false := decide_eq_false hl
      obtain rfl : i = n := by omega
      rw [List.take_of_length_le (by rw [HL.out]; exact Nat.le_refl _)] at hown
      have HX := Lib.hid (And.intro hown q)
      clear hown q hi hl
      go_wp2
      go_ret
      exact ⟨.slice so i sc, rfl, ⟨so, sc, by rw [HL.out], by rw [HL.out]; exact HX.out.1⟩, HX.out.2⟩
theorem r11in_any (v a b : Int) (w : World) : Calls Try.prog 48 #[.int .i64 v, .int .i64 a, .int .i64 b] w fun x w' => x = .returned (.bool (inB v a b)) ∧ w = w' := by
  unfold inB
  cases k1 : decide (a ≤ v)
  · go_enter Try.func48, Try.ntmps48
    go_wp2
    go_ret
    exact ⟨by simp [*], rfl⟩
  · cases k2 : decide (v ≤ b)
    all_goals
      go_enter Try.func48, Try.ntmps48
      go_wp2
      go_ret
      exact ⟨by simp [*], rfl⟩
theorem r11strokes_any (v : Int) (hv : 0 ≤ v ∧ v ≤ 20000000) (w : World) :
    Calls Try.prog 33 #[.int .i64 v] w fun e w' => ∃ s, e = .returned s ∧ RowZ w' w.heap.size s (strokesL v) ∧ B w w' := by
  obtain ⟨R, hR⟩ : ∃ R, R = strokesL v := ⟨_, rfl⟩
  rw [← hR]
  unfold strokesL at hR
  by_cases h0 : v ≤ 0
  · have h0B : decide (v ≤ 0) = true := decide_eq_true h0
    rw [if_pos h0] at hR
    subst hR
    go_enter Try.func33, Try.ntmps33
    go_wp2
    go_ret
    exact ⟨_, rfl, rowZ_nil _ _, B.refl _⟩
  · have h0B : decide (v ≤ 0) = false := decide_eq_false h0
    rw [if_neg h0] at hR
    obtain ⟨m, hm⟩ : ∃ m : Nat, (min v 4).toNat = m := ⟨_, rfl⟩
    have hmI : min v 4 = (m : Int) := by omega
    have cE := r11even_any v m hv (by omega) w
    rw [hm] at hR
    subst hR
    clear hm h0
    go_enter Try.func33, Try.ntmps33
    go_wp2_with fail
    refine cE.mono ?_
    rintro e w1 ⟨s, rfl, hs, q1⟩
    have HS := Lib.hid (And.intro hs q1)
    clear cE hs q1
    go_wp2
    go_ret
    exact ⟨s, rfl, HS.out.1, HS.out.2⟩
def PartsRes (t : Rec) (v : Int) (w : World) (e : Ending) (w' : World) : Prop :=
  (∃ n : Nat, partsX t v = .error n ∧ e = .returned (.tuple #[.slice none 0 0, .int .i64 (n : Int)]) ∧ B w w') ∨
  (∃ l s, partsX t v = .ok l ∧ e = .returned (.tuple #[s, .int .i64 0]) ∧ RowZ w' w.heap.size s l ∧ B w w')
set_option maxRecDepth 100000 in
set_option maxHeartbeats 2000000 in
theorem r11parts_any (N : ByteArray) (x y z : Int) (sv : Value) (sl : List Sec) (v : Int) (hv : I64 v) (w : World) (hs : IsSecs w sv sl) :
    Calls Try.prog 32 #[.agg #[.string N, .int .i64 x, .int .i64 y, .int .i64 z, sv], .int .i64 v] w (PartsRes ⟨N, x, y, z, sl⟩ v w) := by
  have cT0 := fun w' (q : B w w') => r8tipright_any N x y z sv sl w' (IsSecs.keepB hs q)
  rw [tipB_ok] at cT0
  obtain ⟨so, sc, rfl⟩ := secs_form hs
  obtain ⟨sn, hsn⟩ : ∃ sn, sl.length = sn := ⟨_, rfl⟩
  rw [hsn] at cT0 ⊢
  have q0 : B w (w.alloc (.cells #[.string N, .int .i64 x, .int .i64 y, .int .i64 z, .slice so sn sc] 59)) := (B.refl w).alloc _ _
  have oT := obj_new w (.cells #[.string N, .int .i64 x, .int .i64 y, .int .i64 z, .slice so sn sc] 59)
  have k0 := obj_cell oT 0
  have k1 := obj_cell oT 1
  have k2 := obj_cell oT 2
  have k3 := obj_cell oT 3
  have k4 := obj_cell oT 4
  have cT := cT0
  have cW := fun w' => r11in_any v 1 20000000 w'
  obtain ⟨R, hR⟩ : ∃ R, R = partsX ⟨N, x, y, z, sl⟩ v := ⟨_, rfl⟩
  unfold PartsRes
  rw [← hR]
  unfold partsX at hR
  simp only at hR
  clear hs hsn cT0
  cases hok : tipOk ⟨N, x, y, z, sl⟩ with
  | false =>
    rw [hok] at cT hR
    simp only [Bool.false_eq_true, if_false] at hR
    have HR := Lib.hid hR
    clear hR hok cW
    go_enter Try.func32, Try.ntmps32
    go_wp2_with fail
    refine (cT _ q0).mono ?_
    rintro e w1 ⟨rfl, q1⟩
    have HQ := Lib.hid (q0.trans q1)
    clear cT q0 q1 oT
    go_wp2
    go_ret2
    exact .inl ⟨28, HR.out, rfl, HQ.out⟩
  | true =>
    have hb : 1 ≤ x ∧ x ≤ 20000000 ∧ 0 ≤ z ∧ z ≤ 10000 := by
      have h := hok
      unfold tipOk at h
      simp only [Bool.and_eq_true, inB, decide_eq_true_eq] at h
      omega
    rw [hok] at cT hR
    simp only [if_true] at hR
    cases hin : inB v 1 20000000 with
    | false =>
      rw [hin] at cW hR
      simp only [Bool.false_eq_true, if_false] at hR
      have HR := Lib.hid hR
      clear hR hok hin hb
      go_enter Try.func32, Try.ntmps32
      go_wp2_with fail
      refine (cT _ q0).mono ?_
      rintro e w1 ⟨rfl, q1⟩
      have HQ := Lib.hid (q0.trans q1)
      clear cT q0 q1 oT
      go_wp2_with fail
      refine (cW _).mono ?_
      rintro e w2 ⟨rfl, rfl⟩
      go_wp2
      go_ret2
      exact .inl ⟨20, HR.out, rfl, HQ.out⟩
    | true =>
      have hvv : 1 ≤ v ∧ v ≤ 20000000 := by unfold inB at hin; simp only [Bool.and_eq_true, decide_eq_true_eq] at hin; exact hin
      rw [hin] at cW hR
      simp only [if_true] at hR
      obtain ⟨Z4, hZ4⟩ : ∃ Z4, 4 * z = Z4 := ⟨_, rfl⟩
      obtain ⟨M, hM⟩ : ∃ M, x - Z4 = M := ⟨_, rfl⟩
      have w1 : IntKind.i64.wrap (4 * z) = Z4 := by rw [IntKind.wrap_i64]; omega
      have w2 : IntKind.i64.wrap (x - Z4) = M := by rw [IntKind.wrap_i64]; omega
      rw [hZ4, hM] at hR
      have hM1 : -40000 ≤ M ∧ M ≤ 20000000 := by omega
      clear hok hin hb hM hZ4
      by_cases hm : M < 1
      · have hmB : decide (M ≤ 0) = true := decide_eq_true (by omega)
        rw [if_pos hm] at hR
        have HR := Lib.hid hR
        clear hR hm hM1 hvv
        go_enter Try.func32, Try.ntmps32
        go_wp2_with fail
        refine (cT _ q0).mono ?_
        rintro e w1 ⟨rfl, q1⟩
        have HQ := Lib.hid (q0.trans q1)
        replace k1 := q1.keep k1
        replace k3 := q1.keep k3
        clear cT q0 q1 oT
        go_wp2_with fail
        refine (cW _).mono ?_
        rintro e w2 ⟨rfl, rfl⟩
        go_wp2
        go_ret2
        exact .inl ⟨33, HR.out, rfl, HQ.out⟩
      · have hmB : decide (M ≤ 0) = false := decide_eq_false (by omega)
        have hm0 : ¬ M = 0 := by omega
        obtain ⟨p1, p2⟩ := parts_nums hvv ⟨by omega, hM1.2⟩
        rw [if_neg hm] at hR
        obtain ⟨S, hS⟩ : ∃ S, v + M = S := ⟨_, rfl⟩
        obtain ⟨S1, hS1⟩ : ∃ S1, S - 1 = S1 := ⟨_, rfl⟩
        have w3 : IntKind.i64.wrap (v + M) = S := by rw [IntKind.wrap_i64]; omega
        have w4 : IntKind.i64.wrap (S - 1) = S1 := by rw [IntKind.wrap_i64]; omega
        rw [hS, hS1] at p1 p2 hR
        obtain ⟨P, hP⟩ : ∃ P : Nat, S1.tdiv M = (P : Int) := ⟨(S1.tdiv M).toNat, by omega⟩
        rw [hP] at p1 p2 hR
        have w5 : IntKind.i64.wrap (P : Int) = (P : Int) := by rw [IntKind.wrap_i64]; omega
        have hP' := Lib.hid hP
        clear hS hS1 hm hM1
        by_cases hp : 1000 < (P : Int)
        · have hpB : decide (1000 < (P : Int)) = true := decide_eq_true hp
          have hpN : decide (1000 < P) = true := decide_eq_true (by omega)
          rw [if_pos hp] at hR
          have HR := Lib.hid hR
          clear hR hp p1 p2 hvv
          go_enter Try.func32, Try.ntmps32
          go_wp2_with fail
          refine (cT _ q0).mono ?_
          rintro e w1 ⟨rfl, q1⟩
          have HQ := Lib.hid (q0.trans q1)
          replace k1 := q1.keep k1
          replace k3 := q1.keep k3
          clear cT q0 q1 oT
          go_wp2_with fail
          refine (cW _).mono ?_
          rintro e w2 ⟨rfl, rfl⟩
          go_wp2
          go_ret2
          exact .inl ⟨33, HR.out, rfl, HQ.out⟩
        · have hpB : decide (1000 < (P : Int)) = false := decide_eq_false hp
          have hpN : decide (1000 < P) = false := decide_eq_false (by omega)
          rw [if_neg hp, show ((P : Int)).toNat = P by omega] at hR
          have cE := fun w' => r11even_any v P ⟨by omega, hvv.2⟩ (by omega) w'
          have HR := Lib.hid hR
          clear hR hp p1 p2 hvv
          go_enter Try.func32, Try.ntmps32
          go_wp2_with fail
          refine (cT _ q0).mono ?_
          rintro e w1 ⟨rfl, q1⟩
          have HQ := Lib.hid (q0.trans q1)
          replace k1 := q1.keep k1
          replace k3 := q1.keep k3
          clear cT q0 q1 oT
          go_wp2_with fail
          refine (cW _).mono ?_
          rintro e w2 ⟨rfl, rfl⟩
          go_wp2_with fail
          refine (cE _).mono ?_
          rintro e w3 ⟨s, rfl, hs, q3⟩
          have HS := Lib.hid (And.intro (hs.low HQ.out.below.size) (HQ.out.trans q3))
          clear cE hs q3
          go_wp2
          go_ret2
          exact .inr ⟨_, s, HR.out, rfl, HS.out.1, HS.out.2⟩
theorem parts_bounds {t : Rec} {v : Int} {l : List Int} (h : partsX t v = .ok l) : l.length ≤ 1000 ∧ ∀ x ∈ l, 0 ≤ x ∧ x ≤ 20000000 := by
  unfold partsX at h
  split at h
  · rename_i hok
    have hx : t.x ≤ 20000000 ∧ 0 ≤ t.z := by
      unfold tipOk at hok
      simp only [Bool.and_eq_true, inB, decide_eq_true_eq] at hok
      omega
    split at h
    · rename_i hin
      have hvv : 1 ≤ v ∧ v ≤ 20000000 := by unfold inB at hin; simp only [Bool.and_eq_true, decide_eq_true_eq] at hin; exact hin
      split at h
      · cases h
      · rename_i hm
        split at h
        · cases h
        · rename_i hp
          cases h
          obtain ⟨p1, p2⟩ := parts_nums (v := v) (m := t.x - 4 * t.z) hvv ⟨by omega, by omega⟩
          generalize (v + (t.x - 4 * t.z) - 1).tdiv (t.x - 4 * t.z) = P at *
          obtain ⟨n, rfl⟩ : ∃ n : Nat, P = (n : Int) := ⟨P.toNat, by omega⟩
          rw [show ((n : Int)).toNat = n by omega]
          refine ⟨by rw [evenL_len]; omega, fun x hx2 => ?_⟩
          unfold evenL at hx2
          obtain ⟨i, hi, rfl⟩ := List.mem_map.1 hx2
          obtain ⟨l1, l2, g1, g2⟩ := even_nums (v := v) (p := (n : Int)) hvv ⟨p1, by omega⟩
          unfold evenAt
          split
          · rename_i hg
            by_cases h1 : n = 1
            · subst h1
              have : v.tmod ((1 : Nat) : Int) < 1 := g2
              omega
            · have h2 : v.tdiv n ≤ v / 2 := by
                rw [Int.tdiv_eq_ediv_of_nonneg (by omega)]
                refine (Int.le_ediv_iff_mul_le (by omega)).2 ?_
                have a1 := Int.mul_ediv_self_le (x := v) (k := (n : Int)) (by omega)
                have a2 : (v / (n : Int)) * 2 ≤ (n : Int) * (v / (n : Int)) := by
                  rw [Int.mul_comm]
                  exact Int.mul_le_mul_of_nonneg_right (by omega) (Int.ediv_nonneg (by omega) (by omega))
                omega
              omega
          · omega
    · cases h
  · cases h
def cntV (x : Except Nat (List Int)) : Value := match x with
  | .ok l => .tuple #[.int .i64 (cntL l), .int .i64 0]
  | .error n => .tuple #[.int .i64 0, .int .i64 (n : Int)]
set_option maxRecDepth 100000 in
set_option maxHeartbeats 2000000 in
theorem r11count_any (N : ByteArray) (x y z : Int) (sv : Value) (sl : List Sec) (v : Int) (hv : I64 v) (w : World) (hs : IsSecs w sv sl) :
    Calls Try.prog 13 #[.agg #[.string N, .int .i64 x, .int .i64 y, .int .i64 z, sv], .int .i64 v] w fun e w' => e = .returned (cntV (partsX ⟨N, x, y, z, sl⟩ v)) ∧ B w w' := by
  have cP := fun w' (q : B w w') => r11parts_any N x y z sv sl v hv w' (IsSecs.keepB hs q)
  obtain ⟨so, sc, rfl⟩ := secs_form hs
  obtain ⟨sn, hsn⟩ : ∃ sn, sl.length = sn := ⟨_, rfl⟩
  rw [hsn] at cP ⊢
  have q0 : B w (w.alloc (.cells #[.string N, .int .i64 x, .int .i64 y, .int .i64 z, .slice so sn sc] 59)) := (B.refl w).alloc _ _
  have hpb := fun l h => parts_bounds (t := ⟨N, x, y, z, sl⟩) (v := v) (l := l) h
  clear hs hsn hv
  go_enter Try.func13, Try.ntmps13
  go_wp2_with fail
  refine (cP _ q0).mono ?_
  rintro e w1 (⟨n, hp, rfl, q1⟩ | ⟨l, s, hp, rfl, hs, q1⟩)
  · have HQ := Lib.hid (q0.trans q1)
    have HP := Lib.hid hp
    clear cP q0 q1 hp hpb
    go_wp2_with fail
    go_loopw [8, 9] (fun nv iv wr => nv = .int .i64 0 ∧ iv = .int .i64 0 ∧ wr = w1) (fun _ _ _ => 1)
    case atStart => exact ⟨rfl, rfl, rfl⟩
    case round =>
      obtain ⟨rfl, rfl, rfl⟩ := hrel
      go_wp2
      go_ret2
      exact ⟨by rw [HP.out]; rfl, HQ.out⟩
  · obtain ⟨hl1, hl2⟩ := hpb l hp
    have HP := Lib.hid (And.intro hp (And.intro hl2 (q0.trans q1)))
    obtain ⟨o, c, rfl, hrow⟩ := hs
    obtain ⟨ln, hln⟩ : ∃ ln, l.length = ln := ⟨_, rfl⟩
    rw [hln] at hrow hl1 ⊢
    have HL := Lib.hid (And.intro hln hrow)
    clear cP q0 q1 hp hpb hl2 hln hrow
    go_wp2_with fail
    go_loopw [8, 9] (fun nv iv wr => ∃ i : Nat, i ≤ ln ∧ nv = .int .i64 (cntL (l.take i)) ∧ iv = .int .i64 i ∧ 0 ≤ cntL (l.take i) ∧ cntL (l.take i) ≤ 4 * (i : Int) ∧ B w1 wr) (fun _ iv _ => ln + 1 - (intOf iv).toNat)
    case atStart => exact ⟨0, Nat.zero_le _, rfl, rfl, by show (0 : Int) ≤ 0; omega, by show (0 : Int) ≤ 0; omega, B.refl _⟩
    case round =>
      obtain ⟨i, hi, rfl, rfl, hn0, hn1, q⟩ := hrel
      obtain ⟨wo, rfl⟩ : ∃ wo : World, wo = wr := ⟨_, rfl⟩
      by_cases hl : i < ln
      · have hlB : decide ((i : Int) < (ln : Int)) = true := decide_eq_true (by omega)
        have hlN : decide (i < ln) = true := decide_eq_true hl
        have hlI : (i : Int) < (ln : Int) := by omega
        have hi0 : (0 : Int) ≤ (i : Int) := by omega
        have wk1 : IntKind.i64.wrap ((i : Int) + 1) = (i : Int) + 1 := by rw [IntKind.wrap_i64]; omega
        have hrw := own_keepBx HL.out.2 q
        obtain ⟨g, hg, _, _, _⟩ := own_full hrw (by omega)
        subst hg
        have hget : l[i]? = some (l.getD i 0) := getD_of (by rw [HL.out.1]; exact hl)
        have y0 := hrw.cellAt i (by omega)
        rw [flatL_get hget] at y0
        obtain ⟨u, hu⟩ : ∃ u, l.getD i 0 = u := ⟨_, rfl⟩
        rw [hu] at y0 hget
        have hub := HP.out.2.1 u (List.mem_of_getElem? hget)
        have cS := r11strokes_any u hub wo
        have htk := cntL_take l hget
        have hlen := strokesL_len hub.1
        have hpc := pcs_nums hub.1
        obtain ⟨sl2, hsl2⟩ : ∃ sl2, (strokesL u).length = sl2 := ⟨_, rfl⟩
        rw [hsl2] at htk hlen
        obtain ⟨C0, hC0⟩ : ∃ C0, cntL (l.take i) = C0 := ⟨_, rfl⟩
        rw [hC0] at htk hn0 hn1 ⊢
        have wk2 : IntKind.i64.wrap (C0 + (sl2 : Int)) = C0 + (sl2 : Int) := by rw [IntKind.wrap_i64]; omega
        have HX := Lib.hid (And.intro htk (And.intro (show 0 ≤ C0 + (sl2 : Int) ∧ C0 + (sl2 : Int) ≤ 4 * ((i + 1 : Nat) : Int) by omega) (And.intro hl (And.intro q hsl2))))
        clear hl hi hn0 hn1 hrw hget hu hub htk hlen hpc hsl2 hC0 q
        go_wp2_with fail
        refine cS.mono ?_
        rintro e w3 ⟨s3, rfl, ⟨o3, c3, rfl, _⟩, q3⟩
        rw [HX.out.2.2.2.2]
        have HY := Lib.hid (HX.out.2.2.2.1.trans q3)
        clear cS q3 y0
        go_wp2
        go_roundw
        case rel => exact ⟨i + 1, by have := HX.out.2.2.1; omega, by rw [HX.out.1], by go_num, by rw [HX.out.1]; exact HX.out.2.1.1, by rw [HX.out.1]; exact HX.out.2.1.2, HY.out⟩
        case measure => have := HX.out.2.2.1; simp [intOf]; omega
      · have hlB : decide ((i : Int) < (ln : Int)) = false := decide_eq_false (by omega)
        have hlN : decide (i < ln) = false := decide_eq_false hl
        obtain rfl : i = ln := by omega
        have e9 : l.take i = l := List.take_of_length_le (by rw [HL.out.1]; exact Nat.le_refl _)
        rw [e9]
        obtain ⟨C0, hC0⟩ : ∃ C0, cntL l = C0 := ⟨_, rfl⟩
        rw [hC0]
        have HX := Lib.hid (And.intro hC0 (HP.out.2.2.trans q))
        clear hl hi hn0 hn1 q e9 hC0
        go_wp2
        go_ret2
        exact ⟨by rw [HP.out.1]; unfold cntV; simp only; rw [HX.out.1]; rfl, HX.out.2⟩
end Go.Proofs.Ytnmcgleanpdlmaa

namespace Go.Proofs.Ytnmcgleanpdlmaa
open Go.RowKit
set_option linter.unusedVariables false
set_option maxRecDepth 100000 in
set_option maxHeartbeats 1000000 in
theorem longs_eq (b1 b2 g1 g2 nn : Nat) (u : List Int) (hn : nn ≤ 10000) (w : World) (h1 : RowJ w b1 g1 nn u) (h2 : RowJ w b2 g2 nn u) :
    Calls Try.prog 14 #[.slice (some ⟨g1, 0, none⟩) nn nn, .slice (some ⟨g2, 0, none⟩) nn nn] w fun e w' => e = .returned (.bool true) ∧ B w w' := by
  have H := Lib.hid (And.intro h1 h2)
  clear h1 h2
  go_enter Try.func14, Try.ntmps14
  go_wp2_with fail
  go_loopw [5] (fun iv wr => ∃ i : Nat, i ≤ nn ∧ iv = .int .i64 i ∧ B w wr) (fun iv _ => nn + 1 - (intOf iv).toNat)
  case atStart => exact ⟨0, Nat.zero_le _, rfl, B.refl _⟩
  case round =>
    obtain ⟨j, hj, rfl, qr⟩ := hrel
    obtain ⟨wl, rfl⟩ : ∃ wl : World, wl = wr := ⟨_, rfl⟩
    by_cases hl : j < nn
    · have hlB : decide ((j : Int) < (nn : Int)) = true := decide_eq_true (by omega)
      have hlN : decide (j < nn) = true := decide_eq_true hl
      have hlI : (j : Int) < (nn : Int) := by omega
      have hi0 : (0 : Int) ≤ (j : Int) := by omega
      have wk1 : IntKind.i64.wrap ((j : Int) + 1) = (j : Int) + 1 := by rw [IntKind.wrap_i64]; omega
      obtain ⟨_, _, a1, _⟩ := (H.out.1.keep qr).at_ hl
      obtain ⟨_, _, a2, _⟩ := (H.out.2.keep qr).at_ hl
      generalize u.getD j 0 = z at a1 a2
      have HX := Lib.hid (And.intro hl qr)
      clear qr hl hj
      go_wp2_with fail
      go_quiet (fail)
      go_wp2
      go_roundw
      case rel => exact ⟨j + 1, by have := HX.out.1; omega, by go_num, HX.out.2.drewN _⟩
      case measure => have := HX.out.1; simp [intOf]; omega
    · have hlB : decide ((j : Int) < (nn : Int)) = false := decide_eq_false (by omega)
      have hlN : decide (j < nn) = false := decide_eq_false hl
      have HX := Lib.hid qr
      clear qr hl hj
      go_wp2
      go_ret
      exact ⟨rfl, HX.out⟩
end Go.Proofs.Ytnmcgleanpdlmaa

namespace Go.Proofs.Ytnmcgleanpdlmaa
open Go.RowKit
set_option linter.unusedVariables false
def Sp.cells (s : Sp) (u : Value) : List Value := [.int .i64 s.k, .string s.n, u, .int .i64 s.v, .int .i64 s.m]
def flatSp : List Sp → List Value → List Value
  | s :: SS, u :: vs => s.cells u ++ flatSp SS vs
  | _, _ => []
theorem flatSp_snoc : ∀ (SS : List Sp) (vs : List Value) (s : Sp) (u : Value), vs.length = SS.length → flatSp (SS ++ [s]) (vs ++ [u]) = flatSp SS vs ++ s.cells u
  | [], [], s, u, _ => by simp [flatSp]
  | [], _ :: _, s, u, h => by simp at h
  | _ :: _, [], s, u, h => by simp at h
  | t :: SS, v :: vs, s, u, h => by
    show t.cells v ++ flatSp (SS ++ [s]) (vs ++ [u]) = _
    rw [flatSp_snoc SS vs s u (by simpa using h), ← List.append_assoc]
    rfl
theorem flatSp_get : ∀ (SS : List Sp) (vs : List Value) (i k : Nat) (s : Sp) (u : Value), vs.length = SS.length → SS[i]? = some s → vs[i]? = some u → k < 5 → (flatSp SS vs)[i * 5 + k]? = (s.cells u)[k]?
  | [], _, i, k, s, u, _, h, _, _ => by simp at h
  | _ :: _, [], i, k, s, u, h, _, _, _ => by simp at h
  | t :: SS, v :: vs, 0, k, s, u, h, h1, h2, hk => by
    simp only [List.getElem?_cons_zero, Option.some.injEq] at h1 h2
    subst h1 h2
    show (t.cells v ++ flatSp SS vs)[0 * 5 + k]? = _
    rw [List.getElem?_append_left (by show 0 * 5 + k < 5; omega), Nat.zero_mul, Nat.zero_add]
  | t :: SS, v :: vs, i + 1, k, s, u, h, h1, h2, hk => by
    simp only [List.getElem?_cons_succ] at h1 h2
    show (t.cells v ++ flatSp SS vs)[(i + 1) * 5 + k]? = _
    rw [List.getElem?_append_right (by show 5 ≤ (i + 1) * 5 + k; omega), show (i + 1) * 5 + k - (t.cells v).length = i * 5 + k by show (i + 1) * 5 + k - 5 = _; omega]
    exact flatSp_get SS vs i k s u (by simpa using h) h1 h2 hk
theorem IsWps.block {w w' : World} {v : Value} {L : List Wp} (h : IsWps w v L) (hb : ∀ b, v.ownBlock = some b → b < w.heap.size → w'.heap[b]? = w.heap[b]?) : IsWps w' v L := by
  rcases h with h | ⟨a, cap, rfl, h2, h3, h4⟩
  · exact .inl h
  · refine .inr ⟨a, cap, rfl, h2, h3, fun i f hf => ?_⟩
    obtain ⟨k1, k2, k3⟩ := h4 i f hf
    have hlt := World.block_lt_of_cell? w _ k1
    have hab : (a.add (i * 3)).block = a.block := by unfold Addr.add; split <;> rfl
    rw [hab] at hlt
    have e := hb a.block rfl hlt
    have e' : w'.heap[(a.add (i * 3)).block]? = w.heap[(a.add (i * 3)).block]? := by rw [hab]; exact e
    exact ⟨(World.cell?_of_block (a := a.add (i * 3)) e').trans k1, (World.cell?_of_block (a := ⟨(a.add (i * 3)).block, (a.add (i * 3)).off + 1, none⟩) e').trans k2, (World.cell?_of_block (a := ⟨(a.add (i * 3)).block, (a.add (i * 3)).off + 2, none⟩) e').trans k3⟩
/-- Steps in a row that the call owns; their wells lie elsewhere. -/
structure StepsO (w : World) (base : Nat) (e : TypeId) (v : Value) (SS : List Sp) (vs : List Value) : Prop where
  len : vs.length = SS.length
  own : w.ownsRow base e 5 v SS.length (flatSp SS vs)
  row : ∀ (j : Nat) u s, vs[j]? = some u → SS[j]? = some s → IsWps w u s.w ∧ ∀ b, u.ownBlock = some b → v.ownBlock ≠ some b ∧ b < w.heap.size
theorem StepsO.keep {w w' : World} {base : Nat} {e : TypeId} {v : Value} {SS : List Sp} {vs : List Value} (h : StepsO w base e v SS vs) (q : B w w') : StepsO w' base e v SS vs :=
  ⟨h.len, row_keep h.own q, fun j u s hu hs => by
    obtain ⟨h1, h2⟩ := h.row j u s hu hs
    exact ⟨h1.keepB q, fun b hb => ⟨(h2 b hb).1, Nat.lt_of_lt_of_le (h2 b hb).2 q.below.size⟩⟩⟩
/-- A step more. -/
theorem steps_more {w1 w2 : World} {base : Nat} {e : TypeId} {v : Value} {SS : List Sp} {vs : List Value} {g cap : Nat} {u : Value} {s : Sp} (h : StepsO w1 base e v SS vs)
    (own : w2.ownsRow base e 5 (.slice (some ⟨g, 0, none⟩) (SS.length + 1) cap) (SS.length + 1) (flatSp SS vs ++ s.cells u)) (q : w1.grownBy w2 v.ownBlock) (hat : v.ownBlock = some g ∨ g = w1.heap.size)
    (hu : IsWps w1 u s.w) (hb : ∀ b, u.ownBlock = some b → v.ownBlock ≠ some b ∧ b < w1.heap.size) :
    StepsO w2 base e (.slice (some ⟨g, 0, none⟩) (SS ++ [s]).length cap) (SS ++ [s]) (vs ++ [u]) := by
  have hlen := h.len
  have key : ∀ (u : Value) (L : List Wp), IsWps w1 u L → (∀ b, u.ownBlock = some b → v.ownBlock ≠ some b ∧ b < w1.heap.size) → IsWps w2 u L ∧ ∀ b, u.ownBlock = some b → (Value.slice (some ⟨g, 0, none⟩) (SS ++ [s]).length cap).ownBlock ≠ some b ∧ b < w2.heap.size := by
    intro u L hu hh
    refine ⟨hu.block fun b' hb' hlt' => q.block b' hlt' (fun e => (hh b' hb').1 e.symm), fun b hb => ⟨fun e => ?_, Nat.lt_of_lt_of_le (hh b hb).2 q.size⟩⟩
    have hg : g = b := Option.some.inj e
    rcases hat with hat | hat
    · exact (hh b hb).1 (hat.trans (congrArg some hg))
    · have := (hh b hb).2
      omega
  have elen : (SS ++ [s]).length = SS.length + 1 := by simp
  refine ⟨by simp [hlen], ?_, fun j x t hx ht => ?_⟩
  · rw [flatSp_snoc _ _ _ _ hlen, elen]
    exact own
  rcases Nat.lt_or_ge j SS.length with hj | hj
  · rw [List.getElem?_append_left (by omega)] at hx ht
    obtain ⟨h1, h2⟩ := h.row j x t hx ht
    exact key x _ h1 h2
  · have hj' : j = SS.length := by
      have := (List.getElem?_eq_some_iff.1 ht).1
      simp at this
      omega
    subst hj'
    rw [List.getElem?_append_right (by omega)] at hx ht
    simp only [Nat.sub_self, List.getElem?_cons_zero, Option.some.injEq] at ht
    rw [show SS.length - vs.length = 0 by omega] at hx
    simp only [List.getElem?_cons_zero, Option.some.injEq] at hx
    subst hx ht
    exact key _ _ hu hb
theorem StepsO.is {w : World} {base : Nat} {e : TypeId} {v : Value} {SS : List Sp} {vs : List Value} (h : StepsO w base e v SS vs) : IsSps w v SS := by
  have hown := h.own
  rcases hown.2 with ⟨h0, h1⟩ | ⟨g, cap, cur, rfl, _, _, h1, h2, _⟩
  · exact .inl ⟨h0, List.length_eq_zero_iff.1 (by omega)⟩
  · refine .inr ⟨⟨g, 0, none⟩, cap, rfl, h1, h2, fun i s hs => ?_⟩
    have hi : i < SS.length := (List.getElem?_eq_some_iff.1 hs).1
    obtain ⟨u, hu⟩ : ∃ u, vs[i]? = some u := ⟨_, List.getElem?_eq_getElem (by rw [h.len]; exact hi)⟩
    have hc : ∀ k, k < 5 → w.cell? ⟨g, i * 5 + k, none⟩ = (s.cells u)[k]? := fun k hk => by
      rw [h.own.cellAt (i * 5 + k) (by omega)]
      exact flatSp_get SS vs i k s u h.len hs hu hk
    have ha : (⟨g, 0, none⟩ : Addr).add (i * 5) = ⟨g, i * 5, none⟩ := addz g (i * 5)
    rw [ha]
    exact ⟨hc 0 (by omega), hc 1 (by omega), ⟨u, hc 2 (by omega), (h.row i u s hu hs).1⟩, hc 3 (by omega), hc 4 (by omega)⟩
/-- Three wells in a block. -/
theorem wps_three {w : World} {g : Nat} {p1 p2 p3 : Wp} {t : TypeId} {fz : Nat × Nat} (h : w.heap[g]? = some (.cells #[.string p1.n, .int .i64 p1.r, .int .i64 p1.c, .string p2.n, .int .i64 p2.r, .int .i64 p2.c, .string p3.n, .int .i64 p3.r, .int .i64 p3.c] t fz)) {n : Nat} (h1 : 1 ≤ n) (h3 : n ≤ 3) :
    IsWps w (.slice (some ⟨g, 0, none⟩) n 3) ([p1, p2, p3].take n) := by
  refine .inr ⟨⟨g, 0, none⟩, 3, by rw [List.length_take]; simp; omega, by rw [List.length_take]; simp; omega, by unfold maxLen; omega, fun i f hf => ?_⟩
  have hi : i < n := by
    have := (List.getElem?_eq_some_iff.1 hf).1
    rw [List.length_take] at this
    omega
  rw [List.getElem?_take_of_lt hi] at hf
  have hc : ∀ k, w.cell? ⟨g, k, none⟩ = _ := fun k => obj_cell h k
  rw [addz]
  match i, hf with
  | 0, hf => simp at hf; subst hf; exact ⟨hc 0, hc 1, hc 2⟩
  | 1, hf => simp at hf; subst hf; exact ⟨hc 3, hc 4, hc 5⟩
  | 2, hf => simp at hf; subst hf; exact ⟨hc 6, hc 7, hc 8⟩
  | i + 3, hf => omega
end Go.Proofs.Ytnmcgleanpdlmaa

namespace Go.Proofs.Ytnmcgleanpdlmaa
open Go.RowKit
def decS (n : Nat) : ByteArray := ⟨(Lib.decDigits n).toArray⟩
theorem decS_small : ∀ n : Nat, n < 10 → ({ data := #[48, 49, 50, 51, 52, 53, 54, 55, 56, 57] } : ByteArray).extract n (n + 1) = decS n := by
  intro n hn
  have e : decS n = ⟨#[UInt8.ofNat (48 + n)]⟩ := by unfold decS; rw [Lib.decDigits, dif_pos hn]
  rw [e]
  have : n = 0 ∨ n = 1 ∨ n = 2 ∨ n = 3 ∨ n = 4 ∨ n = 5 ∨ n = 6 ∨ n = 7 ∨ n = 8 ∨ n = 9 := by omega
  rcases this with rfl | rfl | rfl | rfl | rfl | rfl | rfl | rfl | rfl | rfl <;> rfl
theorem decS_app {n q r : Nat} (h : 10 ≤ n) (hq : q = n / 10) (hr : r = n % 10) : decS q ++ decS r = decS n := by
  apply ByteArray.ext
  rw [ByteArray.data_append]
  have e1 : Lib.decDigits n = Lib.decDigits (n / 10) ++ [UInt8.ofNat (48 + n % 10)] := by rw [Lib.decDigits.eq_def n, dif_neg (by omega)]
  have e2 : Lib.decDigits (n % 10) = [UInt8.ofNat (48 + n % 10)] := by rw [Lib.decDigits.eq_def (n % 10), dif_pos (by omega)]
  unfold decS
  subst hq hr
  rw [e1, e2]
  simp
theorem decS_size {n : Nat} (h : n ≤ 10000000000000) : (decS n).size ≤ 20 := by
  have e : (decS n).size = (Lib.decDigits n).length := by simp [decS, ByteArray.size]
  rw [e, Lib.decDigits_length]
  exact Lib.nDigits_le20 n (by omega)
theorem slice_digit {n : Nat} (c : n < 10) (w : World) : (Instr.slice 9 (.string { data := #[48, 49, 50, 51, 52, 53, 54, 55, 56, 57] }) (some (.int .i64 (n : Int))) (some (.int .i64 ((n : Int) + 1))) none).run Try.prog w = .ok (.string (decS n)) w := by
  have hs : ({ data := #[48, 49, 50, 51, 52, 53, 54, 55, 56, 57] } : ByteArray).size = 10 := rfl
  rw [run_slice_string w 9 _ .i64 .i64 (n : Int) ((n : Int) + 1) Try.underlying9 (by omega) (by omega) (by rw [hs]; omega), ← decS_small n c]
  rw [show ((n : Int) + 1).toNat = n + 1 by omega, Int.toNat_natCast]
theorem r8dec_any : ∀ (f n : Nat), n ≤ f → n ≤ 10000000000000 → ∀ w : World, Calls Try.prog 79 #[.int .i64 (n : Int)] w fun e w' => e = .returned (.string (decS n)) ∧ w = w' := by
  intro f
  induction f with
  | zero =>
    intro n hf hn w
    obtain rfl : n = 0 := by omega
    have e := decS_small 0 (by decide)
    go_enter Try.func79, Try.ntmps79
    go_wp2
    go_ret
    exact ⟨by rw [← e]; rfl, rfl⟩
  | succ f ih =>
    intro n hf hn w
    by_cases c : n < 10
    · have e := slice_digit c
      have cB : decide ((n : Int) < 10) = true := decide_eq_true (by omega)
      have wk : IntKind.i64.wrap ((n : Int) + 1) = (n : Int) + 1 := by rw [IntKind.wrap_i64]; omega
      clear ih hf hn c
      go_enter Try.func79, Try.ntmps79
      go_wp2
      go_ret
      exact ⟨rfl, rfl⟩
    · obtain ⟨q, hq⟩ : ∃ q, q = n / 10 := ⟨_, rfl⟩
      obtain ⟨r, hr⟩ : ∃ r, r = n % 10 := ⟨_, rfl⟩
      have e := Lib.hid (decS_app (by omega) hq hr)
      have cB : decide ((n : Int) < 10) = false := decide_eq_false (by omega)
      have tq : (n : Int).tdiv 10 = (q : Int) := by rw [Int.tdiv_eq_ediv_of_nonneg (by omega)]; omega
      have tr : (n : Int).tmod 10 = (r : Int) := by rw [Int.tmod_eq_emod_of_nonneg (by omega)]; omega
      have wq : IntKind.i64.wrap (q : Int) = (q : Int) := by rw [IntKind.wrap_i64]; omega
      have wr : IntKind.i64.wrap (r : Int) = (r : Int) := by rw [IntKind.wrap_i64]; omega
      have hsz : ¬ 9223372036854775807 < (decS q).size + (decS r).size := by
        have := decS_size (n := q) (by omega)
        have := decS_size (n := r) (by omega)
        omega
      have c1 := ih q (by omega) (by omega)
      have c2 := ih r (by omega) (by omega)
      clear ih hf hn hq hr
      go_enter Try.func79, Try.ntmps79
      go_wp2_with fail
      refine (c1 _).mono ?_
      rintro e1 w1 ⟨rfl, rfl⟩
      go_wp2_with fail
      refine (c2 _).mono ?_
      rintro e1 w1 ⟨rfl, rfl⟩
      go_wp2_with fail
      go_ret
      exact ⟨by rw [← e.out]; rfl, rfl⟩
end Go.Proofs.Ytnmcgleanpdlmaa

namespace Go.Proofs.Ytnmcgleanpdlmaa
open Go.RowKit
theorem strB_app (a b : List UInt8) : strB a ++ strB b = strB (a ++ b) := by
  apply ByteArray.ext
  rw [ByteArray.data_append]
  simp [strB]
theorem decS_strB (n : Nat) : decS n = strB (decI n) := by unfold decS decI strB; rw [Int.toNat_natCast]
end Go.Proofs.Ytnmcgleanpdlmaa

namespace Go.Proofs.Ytnmcgleanpdlmaa
open Go.RowKit
set_option linter.unusedVariables false
/-- A piece: of a protocol. -/
structure Pz where
  k : Nat
  a : Nat
  b : Nat
  c : Nat
  v : Nat
def wpAt (ws : List Wr) (i : Nat) : Wp := match atW ws (i : Int) with
  | some (n, r, c) => ⟨n, r, c⟩
  | none => ⟨⟨#[]⟩, 0, 0⟩
def pieceV (p : Pz) : Int := if p.v % 7 = 0 then ((p.v % 90000 + 1 : Nat) : Int) else ((p.v % 9000 + 1 : Nat) : Int)
def pieceW (ws : List Wr) (p : Pz) : List Wp := [wpAt ws (p.a % (countW ws).toNat), wpAt ws (p.b % (countW ws).toNat), wpAt ws (p.c % (countW ws).toNat)]
/-- A piece's step. -/
def pieceS (d : Dk) (p : Pz) : Sp :=
  if p.k % 10 = 0 then ⟨0, if p.a % 2 = 1 ∧ 2 ≤ d.ts.length then nameT2 else nameT1, [], 0, 0⟩
  else if p.k % 10 = 1 then ⟨1, ⟨#[]⟩, [], 0, ((p.a % 2 : Nat) : Int)⟩
  else if p.k % 10 = 2 then ⟨3, ⟨#[]⟩, pieceW d.ws p, pieceV p, 0⟩
  else if p.k % 10 = 3 then ⟨4, ⟨#[]⟩, pieceW d.ws p, pieceV p, 0⟩
  else if p.k % 10 = 4 then ⟨5, ⟨#[]⟩, (pieceW d.ws p).take 1, pieceV p, ((p.b % 3 + 1 : Nat) : Int)⟩
  else if p.k % 10 = 5 then ⟨6, ⟨#[]⟩, pieceW d.ws p, pieceV p, 0⟩
  else ⟨2, ⟨#[]⟩, (pieceW d.ws p).take 2, pieceV p, 0⟩
def seatSteps (d : Dk) (ps : List Pz) : List Sp := ⟨0, nameT1, [], 0, 0⟩ :: ps.map (pieceS d)
theorem at_some : ∀ (ws : List Wr) (k : Int), (∀ x ∈ ws, wareB x) → 0 ≤ k → k < countW ws → ∃ v ∈ ws, ∃ r c : Int, atW ws k = some (v.n, r, c) ∧ 0 ≤ r ∧ r < 8 ∧ 0 ≤ c ∧ c < 12
  | [], k, _, h0, h1 => by simp [countW] at h1; omega
  | w :: ws, k, hb, h0, h1 => by
    obtain ⟨b1, b2, b3, b4⟩ := hb w (List.mem_cons_self ..)
    rw [atW, if_neg (by omega)]
    by_cases h2 : k < w.x * w.y
    · rw [if_pos h2]
      have e1 := Int.emod_nonneg k (by omega : w.y ≠ 0)
      have e2 := Int.emod_lt_of_pos k (by omega : 0 < w.y)
      have e3 := Int.ediv_nonneg h0 (by omega : 0 ≤ w.y)
      have e4 : k / w.y < w.x := Int.ediv_lt_of_lt_mul (by omega) (by rw [Int.mul_comm] at h2; rw [Int.mul_comm]; exact h2)
      exact ⟨w, List.mem_cons_self .., _, _, rfl, e3, by omega, e1, by omega⟩
    · rw [if_neg h2]
      have h3 : countW (w :: ws) = w.x * w.y + countW ws := rfl
      obtain ⟨v, hv, r, c, h4⟩ := at_some ws (k - w.x * w.y) (fun x hx => hb x (List.mem_cons_of_mem _ hx)) (by omega) (by omega)
      exact ⟨v, List.mem_cons_of_mem _ hv, r, c, h4⟩
theorem wp_right {ws : List Wr} (hb : ∀ x ∈ ws, wareB x) (hn : ∀ x ∈ ws, nameS x.n = true) {i : Nat} (hi : (i : Int) < countW ws) : (wpAt ws i).t.isEmpty = false := by
  obtain ⟨v, hv, r, c, e, r0, r8, c0, c12⟩ := at_some ws i hb (by omega) hi
  unfold wpAt Wp.t
  rw [e]
  simp only
  unfold wellT
  rw [if_pos ⟨hn v hv, r0, r8, c0, c12⟩]
  simp
theorem piece_ok {d : Dk} (hb : ∀ x ∈ d.ws, wareB x) (hn : ∀ x ∈ d.ws, nameS x.n = true) (hc : 0 < countW d.ws) (p : Pz) : stepOk (pieceS d p) = true := by
  have hm : ∀ i : Nat, ((i % (countW d.ws).toNat : Nat) : Int) < countW d.ws := fun i => by
    have := Nat.mod_lt i (show 0 < (countW d.ws).toNat by omega)
    omega
  have hw : ∀ q ∈ pieceW d.ws p, q.t.isEmpty = false := fun q hq => by
    unfold pieceW at hq
    simp only [List.mem_cons, List.not_mem_nil, or_false] at hq
    rcases hq with rfl | rfl | rfl <;> exact wp_right hb hn (hm _)
  have ok : ∀ l : List Wp, (∀ q ∈ l, q ∈ pieceW d.ws p) → wellsOk l = true := fun l hl => by
    unfold wellsOk
    rw [List.all_eq_true]
    intro q hq
    rw [hw q (hl q hq)]
    rfl
  have hV : inB (pieceV p) 1 20000000 = true := by
    rw [inB_iff]
    unfold pieceV
    split <;> omega
  have hlen : (pieceW d.ws p).length = 3 := rfl
  have t1 : ((pieceW d.ws p).take 1).length = 1 := rfl
  have t2 : ((pieceW d.ws p).take 2).length = 2 := rfl
  have hE : (({ data := #[] } : ByteArray).toList == []) = true := by rw [toList_data]; rfl
  unfold pieceS stepOk
  split
  · simp only [wellsOk, List.all_nil, Bool.true_and]
    unfold stepK
    simp only [if_true]
    split <;> rfl
  split
  · simp only [wellsOk, List.all_nil, Bool.true_and]
    unfold stepK
    have h2 : p.a % 2 = 0 ∨ p.a % 2 = 1 := by omega
    rcases h2 with h2 | h2 <;> rw [h2] <;> simp
  split
  · rw [ok _ (fun _ h => h)]
    unfold stepK
    simp [hV, hlen]
  split
  · rw [ok _ (fun _ h => h)]
    unfold stepK
    simp [hV, hlen]
  split
  · rw [ok _ (fun _ h => List.mem_of_mem_take h)]
    unfold stepK
    have h3 : inB ((p.b % 3 + 1 : Nat) : Int) 1 20 = true := by rw [inB_iff]; omega
    simp only [hV, h3, t1, hE]
    simp
  split
  · rw [ok _ (fun _ h => h)]
    unfold stepK
    simp [hV, hlen]
  · rw [ok _ (fun _ h => List.mem_of_mem_take h)]
    unfold stepK
    simp only [hV, t2, hE]
    simp
theorem seat_steps_ok {d : Dk} (hb : ∀ x ∈ d.ws, wareB x) (hn : ∀ x ∈ d.ws, nameS x.n = true) (hc : 0 < countW d.ws) {ps : List Pz} (hp : ps.length ≤ 100) : stepsOk (seatSteps d ps) = true ∧ ∀ s ∈ seatSteps d ps, stepOk s = true := by
  have h : ∀ s ∈ seatSteps d ps, stepOk s = true := fun s hs => by
    unfold seatSteps at hs
    rw [List.mem_cons] at hs
    rcases hs with rfl | hs
    · rfl
    · obtain ⟨p, _, rfl⟩ := List.mem_map.1 hs
      exact piece_ok hb hn hc p
  refine ⟨?_, h⟩
  unfold stepsOk
  rw [Bool.and_eq_true, decide_eq_true_eq, List.all_eq_true]
  exact ⟨by unfold seatSteps; simp; omega, h⟩
end Go.Proofs.Ytnmcgleanpdlmaa

namespace Go.Proofs.Ytnmcgleanpdlmaa
open Go.RowKit
set_option linter.unusedVariables false
def Wp.val (p : Wp) : Value := .agg #[.string p.n, .int .i64 p.r, .int .i64 p.c]
set_option maxRecDepth 100000 in
set_option maxHeartbeats 2000000 in
theorem seatat_any (wv tv fv : Value) (d : Dk) (k : Nat) (hk : k ≤ 1000000) (w : World) (h : IsDk w wv tv fv d) (hb : ∀ x ∈ d.ws, wareB x) : Calls Try.prog 25 #[.agg #[wv, tv, fv], .int .i64 (k : Int)] w fun e w' => e = .returned (wpAt d.ws k).val ∧ B w w' := by
  obtain ⟨ao, ac, bo, bc, co, cc, rfl, rfl, rfl⟩ := h.forms
  have q1 := ((B.refl w).alloc #[.slice ao d.ws.length ac, .slice bo d.ts.length bc, .slice co d.fs.length cc] 39).alloc #[.string ⟨#[]⟩, .int .i64 0, .int .i64 0] 50
  have cA := r8at_any _ _ _ d (k : Int) (by unfold I64; omega) _ (h.keepB q1) hb
  have e1 : (w.alloc (.cells #[.slice ao d.ws.length ac, .slice bo d.ts.length bc, .slice co d.fs.length cc] 39)).heap.size = w.heap.size + 1 := by simp
  have oE := obj_new (w.alloc (.cells #[.slice ao d.ws.length ac, .slice bo d.ts.length bc, .slice co d.fs.length cc] 39)) (.cells #[.string ⟨#[]⟩, .int .i64 0, .int .i64 0] 50)
  rw [e1] at oE
  clear e1
  unfold wpAt
  cases hat : atW d.ws (k : Int) with
  | none =>
    rw [hat] at cA
    replace cA : Calls Try.prog 17 #[.agg #[.slice ao d.ws.length ac, .slice bo d.ts.length bc, .slice co d.fs.length cc], .int .i64 (k : Int)] _ fun e w' => e = .returned (.tuple #[.agg #[.string ⟨#[]⟩, .int .i64 0, .int .i64 0], .bool false]) ∧ B _ w' := cA
    clear hat h hb
    go_enter Try.func25, Try.ntmps25
    go_wp2_with fail
    refine cA.mono ?_
    rintro _ w2 ⟨rfl, q2⟩
    have oF := q2.obj oE
    have hlt := obj_lt (q2.obj oE)
    obtain ⟨E, hE⟩ : ∃ E, w.heap.size + 1 = E := ⟨_, rfl⟩
    have hEw : w.heap.size ≤ E := by omega
    rw [hE] at oF hlt ⊢
    clear hE
    have hB := q1.trans q2
    have oN := obj_new w2 (.cells #[.string ⟨#[]⟩, .int .i64 0, .int .i64 0] 50)
    have p0 : (w2.alloc (.cells #[.string ⟨#[]⟩, .int .i64 0, .int .i64 0] 50)).cell? ⟨w2.heap.size, 0, none⟩ = some (.string ⟨#[]⟩) := obj_cell oN 0
    have p1 : (w2.alloc (.cells #[.string ⟨#[]⟩, .int .i64 0, .int .i64 0] 50)).cell? ⟨w2.heap.size, 1, none⟩ = some (.int .i64 0) := obj_cell oN 1
    have p2 : (w2.alloc (.cells #[.string ⟨#[]⟩, .int .i64 0, .int .i64 0] 50)).cell? ⟨w2.heap.size, 2, none⟩ = some (.int .i64 0) := obj_cell oN 2
    have f0 := obj_free oF 0
    have f1 := obj_free oF 1
    have f2 := obj_free oF 2
    have r0 : w2.cell? ⟨E, 0, none⟩ = some (.string ⟨#[]⟩) := obj_cell oF 0
    have r1 : w2.cell? ⟨E, 1, none⟩ = some (.int .i64 0) := obj_cell oF 1
    have r2 : w2.cell? ⟨E, 2, none⟩ = some (.int .i64 0) := obj_cell oF 2
    have hne : ¬ w2.heap.size = E := by omega
    have hne2 : ¬ E = w2.heap.size := by omega
    have oG := ((B.refl _).alloc #[.string ⟨#[]⟩, .int .i64 0, .int .i64 0] 50).obj (obj_three oF (.string ⟨#[]⟩) (.int .i64 0) (.int .i64 0))
    have bG := (b_three hB (b := E) hEw (.string ⟨#[]⟩) (.int .i64 0) (.int .i64 0)).alloc #[.string ⟨#[]⟩, .int .i64 0, .int .i64 0] 50
    go_wp2
    have z0 := obj_cell oG 0
    have z1 := obj_cell oG 1
    have z2 := obj_cell oG 2
    exact bodyPost_ret (v := .agg #[.string ⟨#[]⟩, .int .i64 0, .int .i64 0]) (by simp [results, Try.results25, go_sem, z0, z1, z2]) rfl ⟨rfl, bG⟩
  | some nrc =>
    obtain ⟨N, R, C⟩ := nrc
    rw [hat] at cA
    replace cA : Calls Try.prog 17 #[.agg #[.slice ao d.ws.length ac, .slice bo d.ts.length bc, .slice co d.fs.length cc], .int .i64 (k : Int)] _ fun e w' => e = .returned (.tuple #[.agg #[.string N, .int .i64 R, .int .i64 C], .bool true]) ∧ B _ w' := cA
    clear hat h hb
    go_enter Try.func25, Try.ntmps25
    go_wp2_with fail
    refine cA.mono ?_
    rintro _ w2 ⟨rfl, q2⟩
    have oF := q2.obj oE
    have hlt := obj_lt (q2.obj oE)
    obtain ⟨E, hE⟩ : ∃ E, w.heap.size + 1 = E := ⟨_, rfl⟩
    have hEw : w.heap.size ≤ E := by omega
    rw [hE] at oF hlt ⊢
    clear hE
    have hB := q1.trans q2
    have oN := obj_new w2 (.cells #[.string N, .int .i64 R, .int .i64 C] 50)
    have p0 : (w2.alloc (.cells #[.string N, .int .i64 R, .int .i64 C] 50)).cell? ⟨w2.heap.size, 0, none⟩ = some (.string N) := obj_cell oN 0
    have p1 : (w2.alloc (.cells #[.string N, .int .i64 R, .int .i64 C] 50)).cell? ⟨w2.heap.size, 1, none⟩ = some (.int .i64 R) := obj_cell oN 1
    have p2 : (w2.alloc (.cells #[.string N, .int .i64 R, .int .i64 C] 50)).cell? ⟨w2.heap.size, 2, none⟩ = some (.int .i64 C) := obj_cell oN 2
    have f0 := obj_free oF 0
    have f1 := obj_free oF 1
    have f2 := obj_free oF 2
    have r0 : w2.cell? ⟨E, 0, none⟩ = some (.string ⟨#[]⟩) := obj_cell oF 0
    have r1 : w2.cell? ⟨E, 1, none⟩ = some (.int .i64 0) := obj_cell oF 1
    have r2 : w2.cell? ⟨E, 2, none⟩ = some (.int .i64 0) := obj_cell oF 2
    have hne : ¬ w2.heap.size = E := by omega
    have hne2 : ¬ E = w2.heap.size := by omega
    have oG := ((B.refl _).alloc #[.string N, .int .i64 R, .int .i64 C] 50).obj (obj_three oF (.string N) (.int .i64 R) (.int .i64 C))
    have bG := (b_three hB (b := E) hEw (.string N) (.int .i64 R) (.int .i64 C)).alloc #[.string N, .int .i64 R, .int .i64 C] 50
    go_wp2
    have z0 := obj_cell oG 0
    have z1 := obj_cell oG 1
    have z2 := obj_cell oG 2
    exact bodyPost_ret (v := .agg #[.string N, .int .i64 R, .int .i64 C]) (by simp [results, Try.results25, go_sem, z0, z1, z2]) rfl ⟨rfl, bG⟩
end Go.Proofs.Ytnmcgleanpdlmaa
