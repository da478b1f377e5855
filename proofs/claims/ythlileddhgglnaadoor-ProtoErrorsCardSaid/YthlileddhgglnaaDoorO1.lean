/-
  A law and what it rests on.
-/
import Derived.Test.YthlileddhgglnaaDoorY14
namespace Go.Proofs.YthlileddhgglnaaDoor
open Go.RowKit
set_option linter.unusedVariables false

def perrC : Array Value := #[.string { data := #[117, 115, 101, 32, 84] }, .string { data := #[117, 115, 101] }, .string { data := #[117, 115, 101, 32, 97, 32, 98] }, .string { data := #[102, 114, 101, 115, 104, 32, 110, 111, 119] }, .string { data := #[116, 114, 97, 110, 115, 102, 101, 114, 32, 112, 46, 65, 49, 32, 112, 46, 65, 50, 32, 48] }, .string { data := #[116, 114, 97, 110, 115, 102, 101, 114, 32, 112, 46, 65, 49, 32, 112, 46, 65, 50] }, .string { data := #[116, 114, 97, 110, 115, 102, 101, 114, 32, 112, 46, 65, 49, 32, 112, 32, 53] }, .string { data := #[115, 112, 114, 101, 97, 100, 32, 112, 46, 65, 49, 32, 53] }, .string { data := #[115, 112, 114, 101, 97, 100, 32, 112, 46, 65, 49, 32, 120, 32, 112, 46, 65, 50] }, .string { data := #[103, 97, 116, 104, 101, 114, 32, 112, 46, 65, 49, 32, 53, 32, 112, 46, 73, 50] }, .string { data := #[109, 105, 120, 32, 112, 46, 65, 49, 32, 53, 32, 50, 49] }, .string { data := #[109, 105, 120, 32, 112, 46, 65, 49, 32, 50, 48, 48, 48, 48, 48, 48, 49, 32, 50] }, .string { data := #[100, 105, 108, 117, 116, 101, 32, 53, 32, 112, 46, 65, 49] }, .string { data := #[100, 105, 108, 117, 116, 101, 32, 48, 32, 112, 46, 65, 49, 32, 112, 46, 65, 50] }, .string { data := #[103, 111, 32, 112, 46, 65, 49] }, .string { data := #[102, 114, 101, 115, 104, 32, 101, 97, 99, 104, 32, 111, 110, 99, 101] }]
theorem perrC_get : ∀ j, j < 16 → perrC[j]? = some (.string (strB (pErrTs.getD j []))) := by
  intro j hj
  match j, hj with
  | 0, _ => rfl
  | 1, _ => rfl
  | 2, _ => rfl
  | 3, _ => rfl
  | 4, _ => rfl
  | 5, _ => rfl
  | 6, _ => rfl
  | 7, _ => rfl
  | 8, _ => rfl
  | 9, _ => rfl
  | 10, _ => rfl
  | 11, _ => rfl
  | 12, _ => rfl
  | 13, _ => rfl
  | 14, _ => rfl
  | 15, _ => rfl
  | n + 16, h => omega
theorem pErrUp_strB (T : List UInt8) : ({ data := #[102, 114, 101, 115, 104, 32, 101, 97, 99, 104, 10] } : ByteArray) ++ strB T = strB (pErrUp T) := by
  rw [show ({ data := #[102, 114, 101, 115, 104, 32, 101, 97, 99, 104, 10] } : ByteArray) = strB [102, 114, 101, 115, 104, 32, 101, 97, 99, 104, 10] from rfl, strB_app]
  rfl
theorem errP_out {L : List (List Wd)} (h : errP L = true) : ((protoOut L).2.2.2 : Int) ≠ 0 := by
  unfold errP at h
  unfold protoOut
  cases hp : parseP L [] with
  | ok S => rw [hp] at h; cases h
  | error e =>
    obtain ⟨p, n⟩ := e
    have := parseP_err _ _ _ _ hp
    simp only
    omega
set_option maxRecDepth 100000 in
set_option maxHeartbeats 4000000 in
theorem errors12_any (k n : Nat) (hk : k < 256) (hn : n < 256) (w : World) (htab : Lib.TabIs Tryd.prog w "internal/strconv.uint64pow10" .u64 Lib.pow10Tab) : Calls Tryd.prog 5 #[.int .u8 (k : Int), .int .u8 (n : Int)] w fun e w' => e = .returned (.bool true) ∧ B w w' := by
  have cK := known12_any w htab
  obtain ⟨j, hj⟩ : ∃ j : Nat, k % 16 = j := ⟨_, rfl⟩
  obtain ⟨m, hm⟩ : ∃ m : Nat, n % 4 = m := ⟨_, rfl⟩
  have hj18 : j < 16 := by omega
  have hm4 : m < 4 := by omega
  have rk : (k : Int).tmod 16 = (j : Int) := by rw [Int.tmod_eq_emod_of_nonneg (by omega)]; omega
  have rm : (n : Int).tmod 4 = (m : Int) := by rw [Int.tmod_eq_emod_of_nonneg (by omega)]; omega
  have hjI : (j : Int) < 16 := by omega
  have hj0 : (0 : Int) ≤ (j : Int) := by omega
  go_enter Tryd.func5, Tryd.ntmps5
  go_wp2_with fail
  refine cK.mono ?_
  rintro _ w1 ⟨rfl, q1⟩
  clear cK
  have hc : (w1.alloc (.cells perrC 9)).cell? ⟨w1.heap.size, j, none⟩ = some (.string (strB (pErrTs.getD j []))) := by rw [World.cell?_alloc_new]; exact perrC_get j hj18
  have q2 := q1.alloc perrC 9
  unfold perrC at hc q2
  go_wp2_with fail
  generalize w1.alloc (.cells #[.string { data := #[117, 115, 101, 32, 84] }, .string { data := #[117, 115, 101] }, .string { data := #[117, 115, 101, 32, 97, 32, 98] }, .string { data := #[102, 114, 101, 115, 104, 32, 110, 111, 119] }, .string { data := #[116, 114, 97, 110, 115, 102, 101, 114, 32, 112, 46, 65, 49, 32, 112, 46, 65, 50, 32, 48] }, .string { data := #[116, 114, 97, 110, 115, 102, 101, 114, 32, 112, 46, 65, 49, 32, 112, 46, 65, 50] }, .string { data := #[116, 114, 97, 110, 115, 102, 101, 114, 32, 112, 46, 65, 49, 32, 112, 32, 53] }, .string { data := #[115, 112, 114, 101, 97, 100, 32, 112, 46, 65, 49, 32, 53] }, .string { data := #[115, 112, 114, 101, 97, 100, 32, 112, 46, 65, 49, 32, 120, 32, 112, 46, 65, 50] }, .string { data := #[103, 97, 116, 104, 101, 114, 32, 112, 46, 65, 49, 32, 53, 32, 112, 46, 73, 50] }, .string { data := #[109, 105, 120, 32, 112, 46, 65, 49, 32, 53, 32, 50, 49] }, .string { data := #[109, 105, 120, 32, 112, 46, 65, 49, 32, 50, 48, 48, 48, 48, 48, 48, 49, 32, 50] }, .string { data := #[100, 105, 108, 117, 116, 101, 32, 53, 32, 112, 46, 65, 49] }, .string { data := #[100, 105, 108, 117, 116, 101, 32, 48, 32, 112, 46, 65, 49, 32, 112, 46, 65, 50] }, .string { data := #[103, 111, 32, 112, 46, 65, 49] }, .string { data := #[102, 114, 101, 115, 104, 32, 101, 97, 99, 104, 32, 111, 110, 99, 101] }] 9) = w2 at *
  have wm : IntKind.i64.wrap (m : Int) = (m : Int) := by rw [IntKind.wrap_i64]; omega
  clear hc q1
  go_loopw [5, 6] (fun sv iv wr => ∃ i : Nat, i ≤ m ∧ iv = .int .i64 i ∧ sv = .string (strB (pErrT j i)) ∧ w2 = wr) (fun _ iv _ => m + 1 - (intOf iv).toNat)
  case atStart => exact ⟨0, Nat.zero_le _, rfl, rfl, rfl⟩
  case round =>
    obtain ⟨i, hi, rfl, rfl, rfl⟩ := hrel
    have hok := pErr_ok (n := i) hj18 (by omega)
    unfold pErrOk at hok
    simp only [Bool.and_eq_true, decide_eq_true_eq] at hok
    by_cases hl : i < m
    · have hlB : decide ((i : Int) < (m : Int)) = true := decide_eq_true (by omega)
      have hlN : decide (i < m) = true := decide_eq_true hl
      have wk1 : IntKind.i64.wrap ((i : Int) + 1) = (i : Int) + 1 := by rw [IntKind.wrap_i64]; omega
      have hup : pErrT j (i + 1) = pErrUp (pErrT j i) := rfl
      obtain ⟨S, hS⟩ : ∃ S, strB (pErrT j i) = S := ⟨_, rfl⟩
      have hz : S.size ≤ 200 := by rw [← hS, strB_size]; exact hok.2
      have hcat := pErrUp_strB (pErrT j i)
      rw [hS, ← hup] at hcat
      have HC := Lib.hid hcat
      clear hcat
      rw [hS]
      clear hok
      go_wp2
      exact ⟨⟨i + 1, by omega, by go_num, by rw [← HC.out], trivial⟩, by simp [intOf]; omega⟩
    · have hlB : decide ((i : Int) < (m : Int)) = false := decide_eq_false (by omega)
      have hlN : decide (i < m) = false := decide_eq_false hl
      obtain rfl : i = m := by omega
      obtain ⟨T, hT⟩ : ∃ T, pErrT j i = T := ⟨_, rfl⟩
      rw [hT] at hok ⊢
      have hcv := Lib.run_convert_string_bytes (P := Tryd.prog) w2 9 28 5 (strB T) Tryd.underlying9 Tryd.underlying28 Tryd.underlying5
      have IB := isB_conv w2 5 T (by omega)
      have b3 := conv_b w2 5 (strB T)
      rw [strB_size] at hcv IB
      generalize grownCap w2 T.length 0 5 = cap at *
      generalize Lib.bytesWorld w2 5 (strB T) = w3 at *
      generalize w2.heap.size = N at *
      have cL := r8lines_any _ _ _ _ T w3 IB
      unfold LinesRes at cL
      generalize linesB T = LL at *
      obtain ⟨L, p, e⟩ := LL
      simp only at cL hok
      obtain ⟨⟨hf, hpe⟩, hz⟩ := hok
      obtain ⟨f1, f2, f3, f4⟩ := fineL_parts hf
      have b03 := q2.trans b3
      have hne9 := errP_out hpe
      clear IB b3 hT
      go_wp2_with fail
      refine cL.mono ?_
      rintro _ w4 ⟨v, rfl, hv, q4⟩
      clear cL hcv
      have cD := (r8stepsparse_any v L w4 hv.lnO f2 f3 f4).mono (fun e w2 hh => protoRes_uni hh)
      have b04 := b03.trans q4
      clear b03 q4
      have hvl := hv.lnO
      go_wp2_with fail
      refine cD.mono ?_
      rintro _ w5 ⟨sv, ov, rfl, _, _, q5⟩
      clear cD
      have cA := alike12_any v L w5 (hvl.keep q5) f1 f2 f3 f4
      have b05 := b04.trans q5
      generalize (protoOut L).2.2.2 = E9 at *
      have hneB : ((E9 : Int) != 0) = true := by simpa using hne9
      clear q5 b04 hv hvl hne9 hpe hf f1 f2 f3 f4
      go_wp2_with fail
      refine cA.mono ?_
      rintro _ w6 ⟨rfl, q6⟩
      clear cA
      have HB := Lib.hid (b05.trans q6)
      clear b05 q6
      go_wp2
      go_ret
      exact ⟨rfl, HB.out⟩
theorem errors12_ok (k n : Int) (hk : (Lit.int .u8 k).wf = true) (hn : (Lit.int .u8 n).wf = true) (w : World) (htab : Lib.TabIs Tryd.prog w "internal/strconv.uint64pow10" .u64 Lib.pow10Tab) :
    Calls Tryd.prog 5 #[.int .u8 k, .int .u8 n] w fun e w' => e = .returned (.bool true) ∧ B w w' := by
  have b := u8_wf hk
  have c := u8_wf hn
  have h := errors12_any k.toNat n.toNat (by omega) (by omega) w htab
  rwa [show ((k.toNat : Nat) : Int) = k by omega, show ((n.toNat : Nat) : Int) = n by omega] at h
end Go.Proofs.YthlileddhgglnaaDoor
