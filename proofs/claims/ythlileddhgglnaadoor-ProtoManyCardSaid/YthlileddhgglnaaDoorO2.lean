/-
  A law and what it rests on.
-/
import Derived.Test.YthlileddhgglnaaDoorY14
namespace Go.Proofs.YthlileddhgglnaaDoor
open Go.RowKit
set_option linter.unusedVariables false

set_option maxRecDepth 100000 in
set_option maxHeartbeats 4000000 in
theorem many12_true (n : Nat) (hn : n < 256) (w : World) (htab : Lib.TabIs Tryd.prog w "internal/strconv.uint64pow10" .u64 Lib.pow10Tab) : Calls Tryd.prog 6 #[.int .u8 (n : Int), .bool true] w fun e w' => e = .returned (.bool true) ∧ B w w' := by
  have cK := known12_any w htab
  obtain ⟨m, hm⟩ : ∃ m : Nat, n % 5 = m := ⟨_, rfl⟩
  have hm5 : m < 5 := by omega
  have rm : (n : Int).tmod 5 = (m : Int) := by rw [Int.tmod_eq_emod_of_nonneg (by omega)]; omega
  have wm : IntKind.i64.wrap (m : Int) = (m : Int) := by rw [IntKind.wrap_i64]; omega
  obtain ⟨kk, hkk⟩ : ∃ kk : Nat, 94 + m = kk := ⟨_, rfl⟩
  have wk : IntKind.i64.wrap (94 + (m : Int)) = (kk : Int) := by rw [IntKind.wrap_i64]; omega
  have hok := pMany_wok hm5
  have HK := Lib.hid hkk
  have hk9 : 1 ≤ kk ∧ kk ≤ 300 := by omega
  rw [show 93 + m = kk - 1 by omega, hkk] at hok
  clear hm hkk
  go_enter Tryd.func6, Tryd.ntmps6
  go_wp2_with fail
  refine cK.mono ?_
  rintro _ w1 ⟨rfl, q1⟩
  clear cK
  go_wp2_with fail
  go_loopw [6, 7] (fun sv iv wr => ∃ i : Nat, i + 1 ≤ kk ∧ iv = .int .i64 ((i + 1 : Nat) : Int) ∧ sv = .string (strB (pManyT true i)) ∧ w1 = wr) (fun _ iv _ => kk + 1 - (intOf iv).toNat)
  case atStart => exact ⟨0, by omega, rfl, rfl, rfl⟩
  case round =>
    obtain ⟨i, hi, rfl, rfl, rfl⟩ := hrel
    have hlen := pMany_len true i
    obtain ⟨i1, hi1⟩ : ∃ i1, i + 1 = i1 := ⟨_, rfl⟩
    rw [hi1]
    by_cases hl : i1 < kk
    · have hlB : decide ((i1 : Int) < (kk : Int)) = true := decide_eq_true (by omega)
      have hlN : decide (i1 < kk) = true := decide_eq_true hl
      have wk1 : IntKind.i64.wrap ((i1 : Int) + 1) = (i1 : Int) + 1 := by rw [IntKind.wrap_i64]; omega
      have hcat : strB (pManyT true i) ++ ({ data := #[32, 112, 46, 65, 50] } : ByteArray) = strB (pManyT true (i + 1)) := by
        rw [show ({ data := #[32, 112, 46, 65, 50] } : ByteArray) = strB [32, 112, 46, 65, 50] from rfl, strB_app]
        rfl
      obtain ⟨S, hS⟩ : ∃ S, strB (pManyT true i) = S := ⟨_, rfl⟩
      have hz : S.size ≤ 4000 := by rw [← hS, strB_size]; omega
      rw [hS] at hcat ⊢
      have HC := Lib.hid (And.intro hcat (And.intro hi1 hl))
      clear hcat hok hlen hi hS hi1 hl
      go_wp2
      exact ⟨⟨i + 1, by have := HC.out.2.1; have := HC.out.2.2; omega, by rw [show i + 1 + 1 = i1 + 1 by have := HC.out.2.1; omega]; go_num, by rw [← HC.out.1], trivial⟩, by have := HC.out.2.2; simp [intOf]; omega⟩
    · have hlB : decide ((i1 : Int) < (kk : Int)) = false := decide_eq_false (by omega)
      have hlN : decide (i1 < kk) = false := decide_eq_false hl
      have hik := Lib.hid (show i + 1 = kk by omega)
      rw [show kk - 1 = i by omega] at hok
      unfold pManyOk at hok
      rw [Bool.and_eq_true] at hok
      obtain ⟨T, hT⟩ : ∃ T, pManyT true i = T := ⟨_, rfl⟩
      rw [hT] at hok hlen ⊢
      have hz : T.length ≤ 4000 := by omega
      have hcv := Lib.run_convert_string_bytes (P := Tryd.prog) w1 9 28 5 (strB T) Tryd.underlying9 Tryd.underlying28 Tryd.underlying5
      have IB := isB_conv w1 5 T (by omega)
      have b3 := conv_b w1 5 (strB T)
      rw [strB_size] at hcv IB
      generalize grownCap w1 T.length 0 5 = cap at *
      generalize Lib.bytesWorld w1 5 (strB T) = w3 at *
      generalize w1.heap.size = N at *
      have cL := r8lines_any _ _ _ _ T w3 IB
      unfold LinesRes at cL
      generalize linesB T = LL at *
      obtain ⟨L, p, e⟩ := LL
      simp only at cL hok
      obtain ⟨hf, hres⟩ := hok
      obtain ⟨f1, f2, f3, f4⟩ := fineL_parts hf
      have b03 := q1.trans b3
      clear IB b3 hT hlen hi hl
      go_wp2_with fail
      refine cL.mono ?_
      rintro _ w4 ⟨v, rfl, hv, q4⟩
      clear cL hcv
      have cW := words12_any v L w4 hv.lnO f1 f2 f3
      have b04 := b03.trans q4
      have hvl := hv.lnO
      clear b03 q4 hv
      go_wp2_with fail
      refine cW.mono ?_
      rintro _ w5 ⟨u, vs, rfl, hO, q5⟩
      clear cW
      have cP := (pparse_any u L w5 hO.is.lnO f2 f3 f4).mono (fun e w2 hh => protoRes_uni hh)
      go_wp2_with fail
      refine cP.mono ?_
      rintro _ w6 ⟨sv, ov, rfl, hS, hP, q6⟩
      clear cP hO
      have q46 := q5.trans q6
      have cA := alike12_any v L w6 (hvl.keep q46) f1 f2 f3 f4
      have b06 := b04.trans q46
      obtain ⟨so, sc, rfl⟩ := hS.form
      obtain ⟨po, pc, rfl⟩ := hP.form
      unfold pManyRes at hres
      unfold protoOut
      clear hS hP q5 q6 q46 b04 hvl hf f1 f2 f3 f4 hz
      cases hp : parseP L [] with
      | ok S =>
        rw [hp] at hres
        simp only at hres
        have hkB : decide ((kk : Int) ≤ 96) = true := by have := HK.out; have := hik.out; have h9 := of_decide_eq_true hres; exact decide_eq_true (by omega)
        have hkN : decide (kk ≤ 96) = true := by have := HK.out; have := hik.out; have h9 := of_decide_eq_true hres; exact decide_eq_true (by omega)
        clear hp hres
        simp only
        go_wp2_with (go_at_call 12; refine cA.mono ?_; rintro _ w8 ⟨rfl, q8⟩; have HB := Lib.hid (b06.trans q8); clear b06 q8 cA)
        go_ret
        exact ⟨rfl, HB.out⟩
      | error pn =>
        obtain ⟨p9, n9⟩ := pn
        rw [hp] at hres
        simp only [Bool.and_eq_true, Bool.not_eq_true', decide_eq_true_eq, decide_eq_false_iff_not] at hres
        obtain ⟨h9, rfl⟩ := hres
        have hkB : decide ((kk : Int) ≤ 96) = false := by have := HK.out; have := hik.out; exact decide_eq_false (by omega)
        have hkN : decide (kk ≤ 96) = false := by have := HK.out; have := hik.out; exact decide_eq_false (by omega)
        clear hp h9
        simp only [List.length_nil]
        go_wp2_with (go_at_call 12; refine cA.mono ?_; rintro _ w8 ⟨rfl, q8⟩; have HB := Lib.hid (b06.trans q8); clear b06 q8 cA)
        go_ret
        exact ⟨rfl, HB.out⟩
set_option maxRecDepth 100000 in
set_option maxHeartbeats 4000000 in
theorem many12_false (n : Nat) (hn : n < 256) (w : World) (htab : Lib.TabIs Tryd.prog w "internal/strconv.uint64pow10" .u64 Lib.pow10Tab) : Calls Tryd.prog 6 #[.int .u8 (n : Int), .bool false] w fun e w' => e = .returned (.bool true) ∧ B w w' := by
  have cK := known12_any w htab
  obtain ⟨m, hm⟩ : ∃ m : Nat, n % 5 = m := ⟨_, rfl⟩
  have hm5 : m < 5 := by omega
  have rm : (n : Int).tmod 5 = (m : Int) := by rw [Int.tmod_eq_emod_of_nonneg (by omega)]; omega
  have wm : IntKind.i64.wrap (m : Int) = (m : Int) := by rw [IntKind.wrap_i64]; omega
  obtain ⟨kk, hkk⟩ : ∃ kk : Nat, 198 + m = kk := ⟨_, rfl⟩
  have wk : IntKind.i64.wrap (198 + (m : Int)) = (kk : Int) := by rw [IntKind.wrap_i64]; omega
  have hok := pMany_fok hm5
  have HK := Lib.hid hkk
  have hk9 : 0 ≤ kk ∧ kk ≤ 300 := by omega
  rw [show 198 + m = kk by omega] at hok
  clear hm hkk
  go_enter Tryd.func6, Tryd.ntmps6
  go_wp2_with fail
  refine cK.mono ?_
  rintro _ w1 ⟨rfl, q1⟩
  clear cK
  go_wp2_with fail
  go_loopw [6, 8] (fun sv iv wr => ∃ i : Nat, i + 0 ≤ kk ∧ iv = .int .i64 ((i + 0 : Nat) : Int) ∧ sv = .string (strB (pManyT false i)) ∧ w1 = wr) (fun _ iv _ => kk + 1 - (intOf iv).toNat)
  case atStart => exact ⟨0, by omega, rfl, rfl, rfl⟩
  case round =>
    obtain ⟨i, hi, rfl, rfl, rfl⟩ := hrel
    have hlen := pMany_len false i
    obtain ⟨i1, hi1⟩ : ∃ i1, i + 0 = i1 := ⟨_, rfl⟩
    rw [hi1]
    by_cases hl : i1 < kk
    · have hlB : decide ((i1 : Int) < (kk : Int)) = true := decide_eq_true (by omega)
      have hlN : decide (i1 < kk) = true := decide_eq_true hl
      have wk1 : IntKind.i64.wrap ((i1 : Int) + 1) = (i1 : Int) + 1 := by rw [IntKind.wrap_i64]; omega
      have hcat : strB (pManyT false i) ++ ({ data := #[102, 114, 101, 115, 104, 32, 111, 110, 99, 101, 10] } : ByteArray) = strB (pManyT false (i + 1)) := by
        rw [show ({ data := #[102, 114, 101, 115, 104, 32, 111, 110, 99, 101, 10] } : ByteArray) = strB [102, 114, 101, 115, 104, 32, 111, 110, 99, 101, 10] from rfl, strB_app]
        rfl
      obtain ⟨S, hS⟩ : ∃ S, strB (pManyT false i) = S := ⟨_, rfl⟩
      have hz : S.size ≤ 4000 := by rw [← hS, strB_size]; omega
      rw [hS] at hcat ⊢
      have HC := Lib.hid (And.intro hcat (And.intro hi1 hl))
      clear hcat hok hlen hi hS hi1 hl
      go_wp2
      exact ⟨⟨i + 1, by have := HC.out.2.1; have := HC.out.2.2; omega, by rw [show i + 1 + 0 = i1 + 1 by have := HC.out.2.1; omega]; go_num, by rw [← HC.out.1], trivial⟩, by have := HC.out.2.2; simp [intOf]; omega⟩
    · have hlB : decide ((i1 : Int) < (kk : Int)) = false := decide_eq_false (by omega)
      have hlN : decide (i1 < kk) = false := decide_eq_false hl
      have hik := Lib.hid (show i + 0 = kk by omega)
      rw [show kk = i by omega] at hok
      unfold pManyOk at hok
      rw [Bool.and_eq_true] at hok
      obtain ⟨T, hT⟩ : ∃ T, pManyT false i = T := ⟨_, rfl⟩
      rw [hT] at hok hlen ⊢
      have hz : T.length ≤ 4000 := by omega
      have hcv := Lib.run_convert_string_bytes (P := Tryd.prog) w1 9 28 5 (strB T) Tryd.underlying9 Tryd.underlying28 Tryd.underlying5
      have IB := isB_conv w1 5 T (by omega)
      have b3 := conv_b w1 5 (strB T)
      rw [strB_size] at hcv IB
      generalize grownCap w1 T.length 0 5 = cap at *
      generalize Lib.bytesWorld w1 5 (strB T) = w3 at *
      generalize w1.heap.size = N at *
      have cL := r8lines_any _ _ _ _ T w3 IB
      unfold LinesRes at cL
      generalize linesB T = LL at *
      obtain ⟨L, p, e⟩ := LL
      simp only at cL hok
      obtain ⟨hf, hres⟩ := hok
      obtain ⟨f1, f2, f3, f4⟩ := fineL_parts hf
      have b03 := q1.trans b3
      clear IB b3 hT hlen hi hl
      go_wp2_with fail
      refine cL.mono ?_
      rintro _ w4 ⟨v, rfl, hv, q4⟩
      clear cL hcv
      have cW := words12_any v L w4 hv.lnO f1 f2 f3
      have b04 := b03.trans q4
      have hvl := hv.lnO
      clear b03 q4 hv
      go_wp2_with fail
      refine cW.mono ?_
      rintro _ w5 ⟨u, vs, rfl, hO, q5⟩
      clear cW
      have cP := (pparse_any u L w5 hO.is.lnO f2 f3 f4).mono (fun e w2 hh => protoRes_uni hh)
      go_wp2_with fail
      refine cP.mono ?_
      rintro _ w6 ⟨sv, ov, rfl, hS, hP, q6⟩
      clear cP hO
      have q46 := q5.trans q6
      have cA := alike12_any v L w6 (hvl.keep q46) f1 f2 f3 f4
      have b06 := b04.trans q46
      obtain ⟨so, sc, rfl⟩ := hS.form
      obtain ⟨po, pc, rfl⟩ := hP.form
      unfold pManyRes at hres
      unfold protoOut
      clear hS hP q5 q6 q46 b04 hvl hf f1 f2 f3 f4 hz
      cases hp : parseP L [] with
      | ok S =>
        rw [hp] at hres
        simp only at hres
        have hkB : decide ((kk : Int) ≤ 200) = true := by have := HK.out; have := hik.out; have h9 := of_decide_eq_true hres; exact decide_eq_true (by omega)
        have hkN : decide (kk ≤ 200) = true := by have := HK.out; have := hik.out; have h9 := of_decide_eq_true hres; exact decide_eq_true (by omega)
        clear hp hres
        simp only
        go_wp2_with (go_at_call 12; refine cA.mono ?_; rintro _ w8 ⟨rfl, q8⟩; have HB := Lib.hid (b06.trans q8); clear b06 q8 cA)
        go_ret
        exact ⟨rfl, HB.out⟩
      | error pn =>
        obtain ⟨p9, n9⟩ := pn
        rw [hp] at hres
        simp only [Bool.and_eq_true, Bool.not_eq_true', decide_eq_true_eq, decide_eq_false_iff_not] at hres
        obtain ⟨h9, rfl⟩ := hres
        have hkB : decide ((kk : Int) ≤ 200) = false := by have := HK.out; have := hik.out; exact decide_eq_false (by omega)
        have hkN : decide (kk ≤ 200) = false := by have := HK.out; have := hik.out; exact decide_eq_false (by omega)
        clear hp h9
        simp only [List.length_nil]
        go_wp2_with (go_at_call 12; refine cA.mono ?_; rintro _ w8 ⟨rfl, q8⟩; have HB := Lib.hid (b06.trans q8); clear b06 q8 cA)
        go_ret
        exact ⟨rfl, HB.out⟩
theorem many12_ok (n : Int) (t : Bool) (hn : (Lit.int .u8 n).wf = true) (w : World) (htab : Lib.TabIs Tryd.prog w "internal/strconv.uint64pow10" .u64 Lib.pow10Tab) :
    Calls Tryd.prog 6 #[.int .u8 n, .bool t] w fun e w' => e = .returned (.bool true) ∧ B w w' := by
  have b := u8_wf hn
  have e : ((n.toNat : Nat) : Int) = n := by omega
  cases t
  · have h := many12_false n.toNat (by omega) w htab
    rwa [e] at h
  · have h := many12_true n.toNat (by omega) w htab
    rwa [e] at h
end Go.Proofs.YthlileddhgglnaaDoor
