/-
  WareErrors, over the contract of the document's DeckParse; WareMany, over the contract of the document's DeckParse.
-/
import Derived.Test.YtflklpflpjdbmaaGreatDoorChecked
import Derived.Test.YtflklpflpjdbmaaGreatDoorZ1
import Derived.Test.YtflklpflpjdbmaaGreatDoorZ2
import Derived.Test.YtflklpflpjdbmaaGreatDoorZ3
import Derived.Test.YtflklpflpjdbmaaGreatDoorZ4
import Derived.Test.YtflklpflpjdbmaaGreatDoorZ5
import Derived.Test.YtflklpflpjdbmaaGreatDoorZ6
import Derived.Test.YtflklpflpjdbmaaGreatDoorZ7
import Derived.Test.YtflklpflpjdbmaaGreatDoorZ8
import Derived.Test.YtflklpflpjdbmaaGreatDoorZ9
import Derived.Test.YtflklpflpjdbmaaGreatDoorZ10
import Derived.Test.YtflklpflpjdbmaaGreatDoorZ11
import Derived.Test.YtflklpflpjdbmaaGreatDoorZ12
import Derived.Test.YtflklpflpjdbmaaGreatDoorZ13
import Derived.Test.YtflklpflpjdbmaaGreatDoorZ14
import Derived.Test.YtflklpflpjdbmaaGreatDoorZ15
import Derived.Test.YtflklpflpjdbmaaGreatDoorZ16
import Derived.Test.YtflklpflpjdbmaaGreatDoorZ17
import Derived.Test.YtflklpflpjdbmaaGreatDoorZ18
import Derived.Test.YtflklpflpjdbmaaGreatDoorZ19
import Derived.Test.YtflklpflpjdbmaaGreatDoorZ20
import Derived.Test.YtflklpflpjdbmaaGreatDoorZ21
import Derived.Test.YtflklpflpjdbmaaGreatDoorZ22
import Derived.Test.YtflklpflpjdbmaaGreatDoorZ23
import Derived.Test.YtflklpflpjdbmaaGreatDoorZ24
import Derived.Test.YtflklpflpjdbmaaGreatDoorZ25
import Derived.Test.YtflklpflpjdbmaaGreatDoorZ26
import Derived.Test.YtflklpflpjdbmaaGreatDoorZ27
import Derived.Test.YtflklpflpjdbmaaGreatDoorZ28
namespace Go.Proofs.YtflklpflpjdbmaaGreatDoor
open Go.RowKit
theorem dpC : DpC := fun v L w h hf => by
  obtain ⟨f1, f2, f3, f4⟩ := fineL_parts hf
  exact r8parse_any v L w h f2 f3 f4
theorem errors9_ok (k n : Int) (hk : (Lit.int .u8 k).wf = true) (hn : (Lit.int .u8 n).wf = true) (w : World) (htab : Lib.TabIs Tryz.prog w "internal/strconv.uint64pow10" .u64 Lib.pow10Tab) :
    Calls Tryz.prog 4 #[.int .u8 k, .int .u8 n] w fun e w' => e = .returned (.bool true) ∧ B w w' := by
  have a := u8_wf hk
  have b := u8_wf hn
  have h := errors9_any dpC k.toNat n.toNat (by omega) (by omega) w htab
  rwa [show ((k.toNat : Nat) : Int) = k by omega, show ((n.toNat : Nat) : Int) = n by omega] at h
end Go.Proofs.YtflklpflpjdbmaaGreatDoor

namespace Go.Proofs.YtflklpflpjdbmaaGreatDoor
open Go.RowKit
set_option linter.unusedVariables false
theorem many_up_true (i : Nat) (hi : i < 10) : strB (manyT true i) ++ ({ data := #[116, 105, 112, 32, 116] } : ByteArray) ++ decS i ++ ({ data := #[32, 53, 32, 53, 32, 53, 10, 114, 111, 117, 110, 100, 32, 49, 48, 48, 32, 53, 32, 53, 10] } : ByteArray) = strB (manyT true (i + 1)) := by
  have e : decS i = strB [UInt8.ofNat (48 + i)] := by
    unfold decS strB
    rw [Lib.decDigits, dif_pos hi]
  rw [e, show ({ data := #[116, 105, 112, 32, 116] } : ByteArray) = strB [116, 105, 112, 32, 116] from rfl, show ({ data := #[32, 53, 32, 53, 32, 53, 10, 114, 111, 117, 110, 100, 32, 49, 48, 48, 32, 53, 32, 53, 10] } : ByteArray) = strB [32, 53, 32, 53, 32, 53, 10, 114, 111, 117, 110, 100, 32, 49, 48, 48, 32, 53, 32, 53, 10] from rfl]
  simp only [strB_app]
  congr 1
  show _ = manyT true i ++ manyLine true i
  unfold manyLine
  rw [if_pos hi]
  simp
theorem many_up_false (i : Nat) (hi : i < 10) : strB (manyT false i) ++ ({ data := #[119, 97, 114, 101, 32, 119] } : ByteArray) ++ decS i ++ ({ data := #[32, 49, 32, 49, 32, 53, 10, 114, 111, 117, 110, 100, 32, 49, 48, 48, 32, 53, 32, 53, 10] } : ByteArray) = strB (manyT false (i + 1)) := by
  have e : decS i = strB [UInt8.ofNat (48 + i)] := by
    unfold decS strB
    rw [Lib.decDigits, dif_pos hi]
  rw [e, show ({ data := #[119, 97, 114, 101, 32, 119] } : ByteArray) = strB [119, 97, 114, 101, 32, 119] from rfl, show ({ data := #[32, 49, 32, 49, 32, 53, 10, 114, 111, 117, 110, 100, 32, 49, 48, 48, 32, 53, 32, 53, 10] } : ByteArray) = strB [32, 49, 32, 49, 32, 53, 10, 114, 111, 117, 110, 100, 32, 49, 48, 48, 32, 53, 32, 53, 10] from rfl]
  simp only [strB_app]
  congr 1
  show _ = manyT false i ++ manyLine false i
  unfold manyLine
  rw [if_pos hi]
  simp
set_option maxRecDepth 100000 in
set_option maxHeartbeats 4000000 in
theorem many9_true (n : Nat) (hn : n < 256) (w : World) (htab : Lib.TabIs Tryz.prog w "internal/strconv.uint64pow10" .u64 Lib.pow10Tab) : Calls Tryz.prog 5 #[.int .u8 (n : Int), .bool true] w fun e w' => e = .returned (.bool true) ∧ B w w' := by
  have cK := known9_any w htab
  obtain ⟨m, hm⟩ : ∃ m : Nat, n % 11 = m := ⟨_, rfl⟩
  have hm11 : m < 11 := by omega
  have rm : (n : Int).tmod 11 = (m : Int) := by rw [Int.tmod_eq_emod_of_nonneg (by omega)]; omega
  have wm : IntKind.i64.wrap (m : Int) = (m : Int) := by rw [IntKind.wrap_i64]; omega
  clear hm
  go_enter Tryz.func5, Tryz.ntmps5
  go_wp2_with fail
  refine cK.mono ?_
  rintro _ w1 ⟨rfl, q1⟩
  clear cK
  go_wp2_with fail
  go_loopw [6, 7] (fun sv iv wr => ∃ i : Nat, i ≤ m ∧ iv = .int .i64 i ∧ sv = .string (strB (manyT true i)) ∧ w1 = wr) (fun _ iv _ => m + 1 - (intOf iv).toNat)
  case atStart => exact ⟨0, Nat.zero_le _, rfl, rfl, rfl⟩
  case round =>
    obtain ⟨i, hi, rfl, rfl, rfl⟩ := hrel
    have hok := many_ok (k := i) (by omega) true
    unfold manyOk at hok
    simp only [Bool.and_eq_true, decide_eq_true_eq] at hok
    obtain ⟨⟨hf, hz⟩, hres⟩ := hok
    by_cases hl : i < m
    · have hlB : decide ((i : Int) < (m : Int)) = true := decide_eq_true (by omega)
      have hlN : decide (i < m) = true := decide_eq_true hl
      have wk1 : IntKind.i64.wrap ((i : Int) + 1) = (i : Int) + 1 := by rw [IntKind.wrap_i64]; omega
      have HC := Lib.hid (many_up_true i (by omega))
      obtain ⟨S, hS⟩ : ∃ S, strB (manyT true i) = S := ⟨_, rfl⟩
      have hz : S.size ≤ 1000 := by rw [← hS, strB_size]; exact hz
      have hz2 := decS_size (n := i) (by omega)
      have cd := fun w => r8dec_any i i (Nat.le_refl _) (by omega) w
      rw [hS] at HC ⊢
      clear hf hres
      go_wp2_with (go_at_call 20; refine (cd _).mono ?_; rintro _ _ ⟨rfl, rfl⟩)
      exact ⟨⟨i + 1, by omega, by go_num, by rw [← HC.out], trivial⟩, by simp [intOf]; omega⟩
    · have hlB : decide ((i : Int) < (m : Int)) = false := decide_eq_false (by omega)
      have hlN : decide (i < m) = false := decide_eq_false hl
      obtain rfl : i = m := by omega
      clear hl
      obtain ⟨T, hT⟩ : ∃ T, manyT true i = T := ⟨_, rfl⟩
      rw [hT] at hf hz hres ⊢
      have hcv := Lib.run_convert_string_bytes (P := Tryz.prog) w1 9 47 5 (strB T) Tryz.underlying9 Tryz.underlying47 Tryz.underlying5
      have IB := isB_conv w1 5 T (by omega)
      have b3 := conv_b w1 5 (strB T)
      rw [strB_size] at hcv IB
      generalize grownCap w1 T.length 0 5 = cap at *
      generalize Lib.bytesWorld w1 5 (strB T) = w3 at *
      generalize w1.heap.size = N at *
      have cL := r8lines_any _ _ _ _ T w3 IB
      unfold LinesRes at cL
      generalize linesB T = LL at *
      obtain ⟨L, p, e⟩ := LL
      simp only at cL hf hres
      obtain ⟨f1, f2, f3, f4⟩ := fineL_parts hf
      have b03 := q1.trans b3
      clear IB b3
      go_wp2_with fail
      refine cL.mono ?_
      rintro _ w4 ⟨v, rfl, hv, q4⟩
      clear cL hcv
      have cW := words9_any v L w4 hv.lnO f1 f2 f3
      have b04 := b03.trans q4
      clear b03 q4 hT
      go_wp2_with fail
      refine cW.mono ?_
      rintro _ w5 ⟨u, vs, rfl, hO, q5⟩
      clear cW
      have cP := parse_any u L w5 hO.is.lnO f1 f2 f3 f4
      unfold ParseRes at cP
      go_wp2_with fail
      refine cP.mono ?_
      rintro _ w6 ⟨wv, tv, fv, rv, rfl, hD, hR, q6⟩
      clear cP
      obtain ⟨ao, ac, bo, bc, co, cc, rfl, rfl, rfl⟩ := hD.forms
      have b7 := (B.refl w6).alloc #[.slice ao (parseD L dk0 0 0).1.ws.length ac, .slice bo (parseD L dk0 0 0).1.ts.length bc, .slice co (parseD L dk0 0 0).1.fs.length cc] 26
      have q47 := (q5.trans q6).trans b7
      have hv7 := hv.lnO.keep q47
      have cA := fun w' (q : B _ w') => alike9_any v L w' (hv7.keep q) f1 f2 f3 f4 (fun w'' q' => dpC v L w'' ((hv7.keep q).keep q') hf)
      have b07 := b04.trans q47
      clear hD hR hv7 hv hO q5 q6 b7 q47 b04
      generalize (parseD L dk0 0 0).1.ws.length = nw at *
      generalize (parseD L dk0 0 0).1.ts.length = nt at *
      generalize (parseD L dk0 0 0).1.fs.length = nf at *
      generalize (parseD L dk0 0 0).2.2.2 = pe at *
      generalize (parseD L dk0 0 0).2.2.1 = pp at *
      replace hres : (if 4 < i then decide (pe = 27) && decide (nw = 0) else decide (pe = 0) && decide (nw + nt = i)) = true := hres
      by_cases hk : 4 < i
      · rw [if_pos hk] at hres
        simp only [Bool.and_eq_true, decide_eq_true_eq] at hres
        obtain ⟨rfl, rfl⟩ := hres
        have hkB : decide ((4 : Int) < (i : Int)) = true := decide_eq_true (by omega)
        have hkN : decide (4 < i) = true := decide_eq_true hk
        clear hk
        go_wp2_with (go_at_call 19; refine (cA _ (B.refl _)).mono ?_; rintro _ w8 ⟨rfl, q8⟩; have HB := Lib.hid (b07.trans q8); clear b07 q8 cA)
        go_ret
        exact ⟨rfl, HB.out⟩
      · rw [if_neg hk] at hres
        simp only [Bool.and_eq_true, decide_eq_true_eq] at hres
        obtain ⟨rfl, hsum⟩ := hres
        have hkB : decide ((4 : Int) < (i : Int)) = false := decide_eq_false (by omega)
        have hkN : decide (4 < i) = false := decide_eq_false hk
        have hs : IntKind.i64.wrap ((nw : Int) + (nt : Int)) = (i : Int) := by rw [IntKind.wrap_i64]; omega
        clear hk hsum
        go_wp2_with (go_at_call 19; refine (cA _ (B.refl _)).mono ?_; rintro _ w8 ⟨rfl, q8⟩; have HB := Lib.hid (b07.trans q8); clear b07 q8 cA)
        go_ret
        exact ⟨rfl, HB.out⟩
set_option maxRecDepth 100000 in
set_option maxHeartbeats 4000000 in
theorem many9_false (n : Nat) (hn : n < 256) (w : World) (htab : Lib.TabIs Tryz.prog w "internal/strconv.uint64pow10" .u64 Lib.pow10Tab) : Calls Tryz.prog 5 #[.int .u8 (n : Int), .bool false] w fun e w' => e = .returned (.bool true) ∧ B w w' := by
  have cK := known9_any w htab
  obtain ⟨m, hm⟩ : ∃ m : Nat, n % 11 = m := ⟨_, rfl⟩
  have hm11 : m < 11 := by omega
  have rm : (n : Int).tmod 11 = (m : Int) := by rw [Int.tmod_eq_emod_of_nonneg (by omega)]; omega
  have wm : IntKind.i64.wrap (m : Int) = (m : Int) := by rw [IntKind.wrap_i64]; omega
  clear hm
  go_enter Tryz.func5, Tryz.ntmps5
  go_wp2_with fail
  refine cK.mono ?_
  rintro _ w1 ⟨rfl, q1⟩
  clear cK
  go_wp2_with fail
  go_loopw [6, 7] (fun sv iv wr => ∃ i : Nat, i ≤ m ∧ iv = .int .i64 i ∧ sv = .string (strB (manyT false i)) ∧ w1 = wr) (fun _ iv _ => m + 1 - (intOf iv).toNat)
  case atStart => exact ⟨0, Nat.zero_le _, rfl, rfl, rfl⟩
  case round =>
    obtain ⟨i, hi, rfl, rfl, rfl⟩ := hrel
    have hok := many_ok (k := i) (by omega) false
    unfold manyOk at hok
    simp only [Bool.and_eq_true, decide_eq_true_eq] at hok
    obtain ⟨⟨hf, hz⟩, hres⟩ := hok
    by_cases hl : i < m
    · have hlB : decide ((i : Int) < (m : Int)) = true := decide_eq_true (by omega)
      have hlN : decide (i < m) = true := decide_eq_true hl
      have wk1 : IntKind.i64.wrap ((i : Int) + 1) = (i : Int) + 1 := by rw [IntKind.wrap_i64]; omega
      have HC := Lib.hid (many_up_false i (by omega))
      obtain ⟨S, hS⟩ : ∃ S, strB (manyT false i) = S := ⟨_, rfl⟩
      have hz : S.size ≤ 1000 := by rw [← hS, strB_size]; exact hz
      have hz2 := decS_size (n := i) (by omega)
      have cd := fun w => r8dec_any i i (Nat.le_refl _) (by omega) w
      rw [hS] at HC ⊢
      clear hf hres
      go_wp2_with (go_at_call 20; refine (cd _).mono ?_; rintro _ _ ⟨rfl, rfl⟩)
      exact ⟨⟨i + 1, by omega, by go_num, by rw [← HC.out], trivial⟩, by simp [intOf]; omega⟩
    · have hlB : decide ((i : Int) < (m : Int)) = false := decide_eq_false (by omega)
      have hlN : decide (i < m) = false := decide_eq_false hl
      obtain rfl : i = m := by omega
      clear hl
      obtain ⟨T, hT⟩ : ∃ T, manyT false i = T := ⟨_, rfl⟩
      rw [hT] at hf hz hres ⊢
      have hcv := Lib.run_convert_string_bytes (P := Tryz.prog) w1 9 47 5 (strB T) Tryz.underlying9 Tryz.underlying47 Tryz.underlying5
      have IB := isB_conv w1 5 T (by omega)
      have b3 := conv_b w1 5 (strB T)
      rw [strB_size] at hcv IB
      generalize grownCap w1 T.length 0 5 = cap at *
      generalize Lib.bytesWorld w1 5 (strB T) = w3 at *
      generalize w1.heap.size = N at *
      have cL := r8lines_any _ _ _ _ T w3 IB
      unfold LinesRes at cL
      generalize linesB T = LL at *
      obtain ⟨L, p, e⟩ := LL
      simp only at cL hf hres
      obtain ⟨f1, f2, f3, f4⟩ := fineL_parts hf
      have b03 := q1.trans b3
      clear IB b3
      go_wp2_with fail
      refine cL.mono ?_
      rintro _ w4 ⟨v, rfl, hv, q4⟩
      clear cL hcv
      have cW := words9_any v L w4 hv.lnO f1 f2 f3
      have b04 := b03.trans q4
      clear b03 q4 hT
      go_wp2_with fail
      refine cW.mono ?_
      rintro _ w5 ⟨u, vs, rfl, hO, q5⟩
      clear cW
      have cP := parse_any u L w5 hO.is.lnO f1 f2 f3 f4
      unfold ParseRes at cP
      go_wp2_with fail
      refine cP.mono ?_
      rintro _ w6 ⟨wv, tv, fv, rv, rfl, hD, hR, q6⟩
      clear cP
      obtain ⟨ao, ac, bo, bc, co, cc, rfl, rfl, rfl⟩ := hD.forms
      have b7 := (B.refl w6).alloc #[.slice ao (parseD L dk0 0 0).1.ws.length ac, .slice bo (parseD L dk0 0 0).1.ts.length bc, .slice co (parseD L dk0 0 0).1.fs.length cc] 26
      have q47 := (q5.trans q6).trans b7
      have hv7 := hv.lnO.keep q47
      have cA := fun w' (q : B _ w') => alike9_any v L w' (hv7.keep q) f1 f2 f3 f4 (fun w'' q' => dpC v L w'' ((hv7.keep q).keep q') hf)
      have b07 := b04.trans q47
      clear hD hR hv7 hv hO q5 q6 b7 q47 b04
      generalize (parseD L dk0 0 0).1.ws.length = nw at *
      generalize (parseD L dk0 0 0).1.ts.length = nt at *
      generalize (parseD L dk0 0 0).1.fs.length = nf at *
      generalize (parseD L dk0 0 0).2.2.2 = pe at *
      generalize (parseD L dk0 0 0).2.2.1 = pp at *
      replace hres : (if 8 < i then decide (pe = 27) && decide (nw = 0) else decide (pe = 0) && decide (nw + nt = i)) = true := hres
      by_cases hk : 8 < i
      · rw [if_pos hk] at hres
        simp only [Bool.and_eq_true, decide_eq_true_eq] at hres
        obtain ⟨rfl, rfl⟩ := hres
        have hkB : decide ((8 : Int) < (i : Int)) = true := decide_eq_true (by omega)
        have hkN : decide (8 < i) = true := decide_eq_true hk
        clear hk
        go_wp2_with (go_at_call 19; refine (cA _ (B.refl _)).mono ?_; rintro _ w8 ⟨rfl, q8⟩; have HB := Lib.hid (b07.trans q8); clear b07 q8 cA)
        go_ret
        exact ⟨rfl, HB.out⟩
      · rw [if_neg hk] at hres
        simp only [Bool.and_eq_true, decide_eq_true_eq] at hres
        obtain ⟨rfl, hsum⟩ := hres
        have hkB : decide ((8 : Int) < (i : Int)) = false := decide_eq_false (by omega)
        have hkN : decide (8 < i) = false := decide_eq_false hk
        have hs : IntKind.i64.wrap ((nw : Int) + (nt : Int)) = (i : Int) := by rw [IntKind.wrap_i64]; omega
        clear hk hsum
        go_wp2_with (go_at_call 19; refine (cA _ (B.refl _)).mono ?_; rintro _ w8 ⟨rfl, q8⟩; have HB := Lib.hid (b07.trans q8); clear b07 q8 cA)
        go_ret
        exact ⟨rfl, HB.out⟩
theorem many9_ok (n : Int) (t : Bool) (hn : (Lit.int .u8 n).wf = true) (w : World) (htab : Lib.TabIs Tryz.prog w "internal/strconv.uint64pow10" .u64 Lib.pow10Tab) :
    Calls Tryz.prog 5 #[.int .u8 n, .bool t] w fun e w' => e = .returned (.bool true) ∧ B w w' := by
  have b := u8_wf hn
  have e : ((n.toNat : Nat) : Int) = n := by omega
  cases t
  · have h := many9_false n.toNat (by omega) w htab
    rwa [e] at h
  · have h := many9_true n.toNat (by omega) w htab
    rwa [e] at h
end Go.Proofs.YtflklpflpjdbmaaGreatDoor
