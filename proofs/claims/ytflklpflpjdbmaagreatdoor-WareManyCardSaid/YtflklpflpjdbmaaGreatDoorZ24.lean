/-
  WareErrors, over the contract of the document's DeckParse; Contract of the document's numbers of a line's words; Contract of the document's section of a line.
-/
import Derived.StillTailTactics
import Derived.Deep.QuietTactic
import Derived.BigQuiet
import Derived.Deep.AppendLies
import Derived.Test.YtflklpflpjdbmaaGreatDoorChecked
import Derived.Test.YtflklpflpjdbmaaGreatDoorZ1
import Derived.Test.YtflklpflpjdbmaaGreatDoorZ2
import Derived.Test.YtflklpflpjdbmaaGreatDoorZ3
import Derived.Test.YtflklpflpjdbmaaGreatDoorZ4
import Derived.Test.YtflklpflpjdbmaaGreatDoorZ5
import Derived.Test.YtflklpflpjdbmaaGreatDoorZ6
import Derived.Test.YtflklpflpjdbmaaGreatDoorZ7
import Derived.Test.YtflklpflpjdbmaaGreatDoorZ8
import Derived.Test.YtflklpflpjdbmaaGreatDoorZ9
import Derived.Test.YtflklpflpjdbmaaGreatDoorZ10
import Derived.Test.YtflklpflpjdbmaaGreatDoorZ11
import Derived.Test.YtflklpflpjdbmaaGreatDoorZ12
import Derived.Test.YtflklpflpjdbmaaGreatDoorZ13
import Derived.Test.YtflklpflpjdbmaaGreatDoorZ14
import Derived.Test.YtflklpflpjdbmaaGreatDoorZ15
import Derived.Test.YtflklpflpjdbmaaGreatDoorZ16
import Derived.Test.YtflklpflpjdbmaaGreatDoorZ17
import Derived.Test.YtflklpflpjdbmaaGreatDoorZ18
import Derived.Test.YtflklpflpjdbmaaGreatDoorZ19
import Derived.Test.YtflklpflpjdbmaaGreatDoorZ20
import Derived.Test.YtflklpflpjdbmaaGreatDoorZ21
import Derived.Test.YtflklpflpjdbmaaGreatDoorZ22
import Derived.Test.YtflklpflpjdbmaaGreatDoorZ23
namespace Go.Proofs.YtflklpflpjdbmaaGreatDoor
open Go.RowKit
set_option linter.unusedVariables false
/-- What is asked of the document's DeckParse. -/
def DpC : Prop := ∀ (v : Value) (L : List (List Wd)) (w : World), IsLnO w v L → fineL L = true → Calls Tryz.prog 18 #[v] w (ParseRes L w)
def errC : Array Value := #[.string { data := #[119, 97, 114, 101, 32, 112, 32, 57, 32, 50, 32, 53] }, .string { data := #[119, 97, 114, 101, 32, 112, 32, 49, 32, 49, 51, 32, 53] }, .string { data := #[119, 97, 114, 101, 32, 112, 32, 49, 32, 50, 32, 49, 48, 48, 48, 48, 48, 49] }, .string { data := #[119, 97, 114, 101, 32, 80, 32, 49, 32, 50, 32, 53] }, .string { data := #[119, 97, 114, 101, 32, 112, 32, 49, 32, 50] }, .string { data := #[114, 111, 117, 110, 100, 32, 49, 48, 48, 32, 53, 32, 53] }, .string { data := #[116, 105, 112, 32, 116, 32, 48, 32, 53, 32, 53, 10, 114, 111, 117, 110, 100, 32, 49, 48, 48, 32, 53, 32, 53] }, .string { data := #[116, 105, 112, 32, 116, 32, 53, 32, 53, 32, 49, 48, 48, 48, 49, 10, 114, 111, 117, 110, 100, 32, 49, 48, 48, 32, 53, 32, 53] }, .string { data := #[102, 105, 108, 108, 32, 112, 46, 65, 49, 32, 53] }, .string { data := #[119, 97, 114, 101, 32, 112, 32, 49, 32, 50, 32, 53, 10, 114, 111, 117, 110, 100, 32, 49, 53, 48, 32, 53, 32, 53] }, .string { data := #[119, 97, 114, 101, 32, 112, 32, 49, 32, 50, 32, 53, 10, 114, 111, 117, 110, 100, 32, 49, 48, 48, 32, 53, 32, 53, 10, 102, 105, 108, 108, 32, 112, 46, 65, 51, 32, 53] }, .string { data := #[119, 97, 114, 101, 32, 112, 32, 49, 32, 50, 32, 53, 10, 114, 111, 117, 110, 100, 32, 49, 48, 48, 32, 53, 32, 53, 10, 102, 105, 108, 108, 32, 112, 46, 65, 50, 32, 50, 48, 48, 48, 48, 48, 48, 49] }, .string { data := #[119, 97, 114, 101, 32, 112, 32, 49, 32, 50, 32, 53, 10, 114, 111, 117, 110, 100, 32, 49, 48, 48, 32, 53, 32, 53, 10, 119, 97, 114, 101, 32, 112, 32, 49, 32, 50, 32, 53] }, .string { data := #[116, 105, 112, 32, 116, 32, 53, 32, 53, 32, 53, 10, 98, 111, 120, 32, 49, 48, 48, 32, 53, 32, 53, 32, 53] }, .string { data := #[119, 97, 114, 101, 32, 112, 32, 49, 32, 50, 32, 53] }, .string { data := #[119, 97, 114, 101, 32, 112, 32, 49, 32, 50, 32, 53, 10, 114, 111, 117, 110, 100, 32, 49, 48, 48, 32, 53, 32, 120] }, .string { data := #[119, 97, 114, 101, 32, 112, 32, 49, 32, 50, 32, 53, 10, 114, 111, 117, 110, 100, 32, 49, 48, 48, 32, 53, 32, 53, 10, 102, 105, 108, 108, 32, 112, 46, 65, 49, 32, 53, 10, 114, 111, 117, 110, 100, 32, 49, 48, 48, 32, 53, 32, 53] }, .string { data := #[119, 97, 114, 101, 32, 112, 32, 49, 32, 50, 32, 53, 10, 114, 111, 117, 110, 100, 32, 49, 48, 48, 32, 53, 32, 53, 10, 102, 105, 108, 108, 32, 112, 46, 65, 49, 32, 53, 10, 102, 105, 108, 108, 32, 112, 46, 65, 49, 32, 54] }]
theorem errC_get : ∀ j, j < 18 → errC[j]? = some (.string (strB (errTs.getD j []))) := by
  intro j hj
  match j, hj with
  | 0, _ => rfl
  | 1, _ => rfl
  | 2, _ => rfl
  | 3, _ => rfl
  | 4, _ => rfl
  | 5, _ => rfl
  | 6, _ => rfl
  | 7, _ => rfl
  | 8, _ => rfl
  | 9, _ => rfl
  | 10, _ => rfl
  | 11, _ => rfl
  | 12, _ => rfl
  | 13, _ => rfl
  | 14, _ => rfl
  | 15, _ => rfl
  | 16, _ => rfl
  | 17, _ => rfl
  | n + 18, h => omega
theorem err_first : ((List.range 18).all fun k => decide (1 ≤ (errTs.getD k []).length)) = true := by kernel_rfl
theorem errT_pos {k : Nat} (hk : k < 18) (n : Nat) : 1 ≤ (errT k n).length := by
  cases n with
  | zero =>
    have h := err_first
    rw [List.all_eq_true] at h
    exact of_decide_eq_true (h k (List.mem_range.2 hk))
  | succ n =>
    show 1 ≤ (errUp (errT k n)).length
    unfold errUp
    simp
theorem strB_first (T : List UInt8) : (strB T).extract 0 1 = strB (T.take 1) := by
  apply ByteArray.ext
  rw [ByteArray.data_extract]
  simp [strB]
theorem errUp_strB (T : List UInt8) : ({ data := #[35, 32] } : ByteArray) ++ (strB T).extract 0 1 ++ ({ data := #[10] } : ByteArray) ++ strB T = strB (errUp T) := by
  rw [strB_first, show ({ data := #[35, 32] } : ByteArray) = strB [35, 32] from rfl, show ({ data := #[10] } : ByteArray) = strB [10] from rfl]
  simp only [strB_app]
  rfl
set_option maxRecDepth 100000 in
set_option maxHeartbeats 4000000 in
theorem errors9_any (hDp : DpC) (k n : Nat) (hk : k < 256) (hn : n < 256) (w : World) (htab : Lib.TabIs Tryz.prog w "internal/strconv.uint64pow10" .u64 Lib.pow10Tab) : Calls Tryz.prog 4 #[.int .u8 (k : Int), .int .u8 (n : Int)] w fun e w' => e = .returned (.bool true) ∧ B w w' := by
  have cK := known9_any w htab
  obtain ⟨j, hj⟩ : ∃ j : Nat, k % 18 = j := ⟨_, rfl⟩
  obtain ⟨m, hm⟩ : ∃ m : Nat, n % 4 = m := ⟨_, rfl⟩
  have hj18 : j < 18 := by omega
  have hm4 : m < 4 := by omega
  have rk : (k : Int).tmod 18 = (j : Int) := by rw [Int.tmod_eq_emod_of_nonneg (by omega)]; omega
  have rm : (n : Int).tmod 4 = (m : Int) := by rw [Int.tmod_eq_emod_of_nonneg (by omega)]; omega
  have hjI : (j : Int) < 18 := by omega
  have hj0 : (0 : Int) ≤ (j : Int) := by omega
  go_enter Tryz.func4, Tryz.ntmps4
  go_wp2_with fail
  refine cK.mono ?_
  rintro _ w1 ⟨rfl, q1⟩
  clear cK
  have hc : (w1.alloc (.cells errC 9)).cell? ⟨w1.heap.size, j, none⟩ = some (.string (strB (errTs.getD j []))) := by rw [World.cell?_alloc_new]; exact errC_get j hj18
  have q2 := q1.alloc errC 9
  unfold errC at hc q2
  go_wp2_with fail
  generalize w1.alloc (.cells #[.string { data := #[119, 97, 114, 101, 32, 112, 32, 57, 32, 50, 32, 53] }, .string { data := #[119, 97, 114, 101, 32, 112, 32, 49, 32, 49, 51, 32, 53] }, .string { data := #[119, 97, 114, 101, 32, 112, 32, 49, 32, 50, 32, 49, 48, 48, 48, 48, 48, 49] }, .string { data := #[119, 97, 114, 101, 32, 80, 32, 49, 32, 50, 32, 53] }, .string { data := #[119, 97, 114, 101, 32, 112, 32, 49, 32, 50] }, .string { data := #[114, 111, 117, 110, 100, 32, 49, 48, 48, 32, 53, 32, 53] }, .string { data := #[116, 105, 112, 32, 116, 32, 48, 32, 53, 32, 53, 10, 114, 111, 117, 110, 100, 32, 49, 48, 48, 32, 53, 32, 53] }, .string { data := #[116, 105, 112, 32, 116, 32, 53, 32, 53, 32, 49, 48, 48, 48, 49, 10, 114, 111, 117, 110, 100, 32, 49, 48, 48, 32, 53, 32, 53] }, .string { data := #[102, 105, 108, 108, 32, 112, 46, 65, 49, 32, 53] }, .string { data := #[119, 97, 114, 101, 32, 112, 32, 49, 32, 50, 32, 53, 10, 114, 111, 117, 110, 100, 32, 49, 53, 48, 32, 53, 32, 53] }, .string { data := #[119, 97, 114, 101, 32, 112, 32, 49, 32, 50, 32, 53, 10, 114, 111, 117, 110, 100, 32, 49, 48, 48, 32, 53, 32, 53, 10, 102, 105, 108, 108, 32, 112, 46, 65, 51, 32, 53] }, .string { data := #[119, 97, 114, 101, 32, 112, 32, 49, 32, 50, 32, 53, 10, 114, 111, 117, 110, 100, 32, 49, 48, 48, 32, 53, 32, 53, 10, 102, 105, 108, 108, 32, 112, 46, 65, 50, 32, 50, 48, 48, 48, 48, 48, 48, 49] }, .string { data := #[119, 97, 114, 101, 32, 112, 32, 49, 32, 50, 32, 53, 10, 114, 111, 117, 110, 100, 32, 49, 48, 48, 32, 53, 32, 53, 10, 119, 97, 114, 101, 32, 112, 32, 49, 32, 50, 32, 53] }, .string { data := #[116, 105, 112, 32, 116, 32, 53, 32, 53, 32, 53, 10, 98, 111, 120, 32, 49, 48, 48, 32, 53, 32, 53, 32, 53] }, .string { data := #[119, 97, 114, 101, 32, 112, 32, 49, 32, 50, 32, 53] }, .string { data := #[119, 97, 114, 101, 32, 112, 32, 49, 32, 50, 32, 53, 10, 114, 111, 117, 110, 100, 32, 49, 48, 48, 32, 53, 32, 120] }, .string { data := #[119, 97, 114, 101, 32, 112, 32, 49, 32, 50, 32, 53, 10, 114, 111, 117, 110, 100, 32, 49, 48, 48, 32, 53, 32, 53, 10, 102, 105, 108, 108, 32, 112, 46, 65, 49, 32, 53, 10, 114, 111, 117, 110, 100, 32, 49, 48, 48, 32, 53, 32, 53] }, .string { data := #[119, 97, 114, 101, 32, 112, 32, 49, 32, 50, 32, 53, 10, 114, 111, 117, 110, 100, 32, 49, 48, 48, 32, 53, 32, 53, 10, 102, 105, 108, 108, 32, 112, 46, 65, 49, 32, 53, 10, 102, 105, 108, 108, 32, 112, 46, 65, 49, 32, 54] }] 9) = w2 at *
  have wm : IntKind.i64.wrap (m : Int) = (m : Int) := by rw [IntKind.wrap_i64]; omega
  clear hc q1
  go_loopw [5, 6] (fun sv iv wr => ∃ i : Nat, i ≤ m ∧ iv = .int .i64 i ∧ sv = .string (strB (errT j i)) ∧ w2 = wr) (fun _ iv _ => m + 1 - (intOf iv).toNat)
  case atStart => exact ⟨0, Nat.zero_le _, rfl, rfl, rfl⟩
  case round =>
    obtain ⟨i, hi, rfl, rfl, rfl⟩ := hrel
    have hok := err_ok (n := i) hj18 (by omega)
    unfold errOk at hok
    simp only [Bool.and_eq_true, decide_eq_true_eq] at hok
    by_cases hl : i < m
    · have hlB : decide ((i : Int) < (m : Int)) = true := decide_eq_true (by omega)
      have wk1 : IntKind.i64.wrap ((i : Int) + 1) = (i : Int) + 1 := by rw [IntKind.wrap_i64]; omega
      have hup : errT j (i + 1) = errUp (errT j i) := rfl
      obtain ⟨S, hS⟩ : ∃ S, strB (errT j i) = S := ⟨_, rfl⟩
      have hz : S.size ≤ 200 := by rw [← hS, strB_size]; exact hok.2
      have h1 : (1 : Int) ≤ (S.size : Int) := by
        have := errT_pos hj18 i
        rw [← hS, strB_size]
        omega
      have hcat := errUp_strB (errT j i)
      rw [hS, ← hup] at hcat
      have HC := Lib.hid hcat
      clear hcat
      have hsl := fun w => run_slice_string_h (P := Tryz.prog) w 9 S Tryz.underlying9 .i64 1 (by omega) h1
      rw [hS]
      clear hok
      go_wp2
      exact ⟨⟨i + 1, by omega, by go_num, by rw [HC.out], trivial⟩, by simp [intOf]; omega⟩
    · have hlB : decide ((i : Int) < (m : Int)) = false := decide_eq_false (by omega)
      obtain rfl : i = m := by omega
      obtain ⟨T, hT⟩ : ∃ T, errT j i = T := ⟨_, rfl⟩
      rw [hT] at hok ⊢
      have hcv := Lib.run_convert_string_bytes (P := Tryz.prog) w2 9 47 5 (strB T) Tryz.underlying9 Tryz.underlying47 Tryz.underlying5
      have IB := isB_conv w2 5 T (by omega)
      have b3 := conv_b w2 5 (strB T)
      rw [strB_size] at hcv IB
      generalize grownCap w2 T.length 0 5 = cap at *
      generalize Lib.bytesWorld w2 5 (strB T) = w3 at *
      generalize w2.heap.size = N at *
      have cL := r8lines_any _ _ _ _ T w3 IB
      unfold LinesRes at cL
      generalize linesB T = LL at *
      obtain ⟨L, p, e⟩ := LL
      simp only at cL hok
      obtain ⟨⟨hf, hpe⟩, hz⟩ := hok
      obtain ⟨f1, f2, f3, f4⟩ := fineL_parts hf
      have b03 := q2.trans b3
      clear IB b3
      go_wp2_with fail
      refine cL.mono ?_
      rintro _ w4 ⟨v, rfl, hv, q4⟩
      clear cL hcv
      have cD := hDp v L w4 hv.lnO hf
      unfold ParseRes at cD
      have b04 := b03.trans q4
      clear b03 q4
      have hne9 : (((parseD L dk0 0 0).2.2.2 : Nat) : Int) ≠ 0 := by omega
      go_wp2_with fail
      refine cD.mono ?_
      rintro _ w5 ⟨wv, tv, fv, rv, rfl, hD, _, q5⟩
      clear cD
      obtain ⟨ao, ac, bo, bc, co, cc, rfl, rfl, rfl⟩ := hD.forms
      have b5 := q5.alloc #[.slice ao (parseD L dk0 0 0).1.ws.length ac, .slice bo (parseD L dk0 0 0).1.ts.length bc, .slice co (parseD L dk0 0 0).1.fs.length cc] 26
      have cA := alike9_any v L _ (hv.lnO.keep b5) f1 f2 f3 f4 (fun w' q => hDp v L w' ((hv.lnO.keep b5).keep q) hf)
      have b05 := b04.trans b5
      have hneB : ((((parseD L dk0 0 0).2.2.2 : Nat) : Int) != 0) = true := by simpa using hne9
      clear hD q5 b04 b5 hv
      go_wp2_with fail
      refine cA.mono ?_
      rintro _ w6 ⟨rfl, q6⟩
      clear cA
      have HB := Lib.hid (b05.trans q6)
      clear b05 q6
      go_wp2
      go_ret
      exact ⟨rfl, HB.out⟩
end Go.Proofs.YtflklpflpjdbmaaGreatDoor

namespace Go.Proofs.YtflklpflpjdbmaaGreatDoor
open Go.RowKit
def putN (ns : List Nat) : Except Nat (List Nat) → Except Nat (List Nat)
  | .ok r => .ok (ns ++ r)
  | .error p => .error p
theorem nums_none (ns : List Nat) : putN ns (numsW []) = .ok ns := by show Except.ok (ns ++ []) = _; rw [List.append_nil]
theorem nums_no {x : Wd} {l : List Wd} (ns : List Nat) (h : numOk (strB x.2) = false) : putN ns (numsW (x :: l)) = .error x.1 := by
  unfold numsW; rw [h]; rfl
theorem nums_yes {x : Wd} {l : List Wd} (ns : List Nat) (h : numOk (strB x.2) = true) : putN ns (numsW (x :: l)) = putN (ns ++ [numV (strB x.2)]) (numsW l) := by
  rw [numsW, h]
  cases numsW l with
  | ok r => simp [putN]
  | error p => rfl
/-- Numbers in memory. -/
def cellsI (ns : List Nat) : List Value := ns.map fun n => Value.int .i64 ((n : Nat) : Int)
def IsInts (w : World) (v : Value) (ns : List Nat) : Prop := (v = .slice none 0 0 ∧ ns = []) ∨ ∃ g cap, v = .slice (some ⟨g, 0, none⟩) ns.length cap ∧ ns.length ≤ cap ∧ cap ≤ maxLen ∧ ∀ i n, ns[i]? = some n → w.cell? ⟨g, i, none⟩ = some (.int .i64 ((n : Nat) : Int))
theorem ints_own {w : World} {base : Nat} {e : TypeId} {ao : Option Addr} {k c : Nat} {ns : List Nat} (h : w.ownsRow base e 1 (.slice ao k c) k (cellsI ns)) (hl : ns.length = k) : IsInts w (.slice ao k c) ns := by
  have hh := h
  rcases hh.2 with ⟨h0, h1⟩ | ⟨g, cap, cur, hv, _, _, h1, h2, _⟩
  · refine .inl ⟨h0, List.length_eq_zero_iff.1 (by omega)⟩
  · simp only [Value.slice.injEq] at hv
    obtain ⟨rfl, _, rfl⟩ := hv
    subst hl
    refine .inr ⟨g, c, rfl, h1, h2, fun i n hn => ?_⟩
    have hi : i < ns.length := (List.getElem?_eq_some_iff.1 hn).1
    rw [h.cellAt i (by omega)]
    unfold cellsI
    rw [List.getElem?_map, hn]
    rfl
theorem IsInts.keepB {w w' : World} {v : Value} {ns : List Nat} (h : IsInts w v ns) (q : B w w') : IsInts w' v ns := by
  rcases h with h | ⟨g, cap, h1, h2, h3, h4⟩
  · exact .inl h
  · exact .inr ⟨g, cap, h1, h2, h3, fun i n hn => q.keep (h4 i n hn)⟩
theorem IsInts.form {w : World} {v : Value} {ns : List Nat} (h : IsInts w v ns) : ∃ ao cap, v = .slice ao ns.length cap := by
  rcases h with ⟨rfl, rfl⟩ | ⟨g, cap, rfl, _⟩ <;> exact ⟨_, _, rfl⟩
theorem i64Info : (Tryz.prog.info? 2).map (fun i => (i.zero, i.size, i.bytes)) = some (some (.int .i64 0), 1, 8) := by kernel_rfl
/-- What numbers tells. -/
def NumsRes (l : List Wd) (k : Nat) (w : World) (e : Ending) (w' : World) : Prop :=
  (∃ v ns, numsW (l.drop k) = .ok ns ∧ e = .returned (.tuple #[v, .int .i64 (-1)]) ∧ IsInts w' v ns ∧ B w w') ∨ (∃ p : Nat, numsW (l.drop k) = .error p ∧ e = .returned (.tuple #[.slice none 0 0, .int .i64 (p : Int)]) ∧ B w w')
set_option maxHeartbeats 2000000 in
theorem r8numbers_any (v : Value) (l : List Wd) (k : Nat) (w : World) (h : IsWords w v l) (hk : k ≤ l.length) (hl : l.length ≤ 65536) : Calls Tryz.prog 84 #[v, .int .i64 (k : Int)] w (NumsRes l k w) := by
  obtain ⟨ao, ac, rfl⟩ := h.form
  obtain ⟨ib, hib, hz0, hz1, hz2⟩ := info_of i64Info
  unfold NumsRes
  obtain ⟨R, hR⟩ : ∃ R, numsW (l.drop k) = R := ⟨_, rfl⟩
  have hR0 : R = putN [] (numsW (l.drop k)) := by rw [hR]; cases R <;> rfl
  rw [hR]
  clear hR
  go_enter Tryz.func84, Tryz.ntmps84
  go_wp2
  go_loopw [6, 7] (fun ov iv wr => ∃ (i : Nat) (o : Option Addr) (c : Nat) (ns : List Nat), i ≤ l.length ∧ iv = .int .i64 i ∧ ov = .slice o ns.length c ∧ ns.length ≤ i ∧ wr.ownsRow w.heap.size 2 1 (.slice o ns.length c) ns.length (cellsI ns) ∧ R = putN ns (numsW (l.drop i)) ∧ B w wr) (fun _ iv _ => l.length + 1 - (intOf iv).toNat)
  case atStart => exact ⟨k, none, 0, [], hk, rfl, rfl, by simp, World.ownsRow_nil _ _ _ _, hR0, B.refl _⟩
  case round =>
    obtain ⟨i, o, c, ns, hi, rfl, rfl, hns, hown, hRi, hB⟩ := hrel
    obtain ⟨wo, rfl⟩ : ∃ wo : World, wo = wr := ⟨_, rfl⟩
    clear hR0
    by_cases hil : i < l.length
    · have hlB : decide ((i : Int) < (l.length : Int)) = true := decide_eq_true (by omega)
      have hlI : (i : Int) < (l.length : Int) := by omega
      have hi0 : (0 : Int) ≤ (i : Int) := by omega
      have wk1 : IntKind.i64.wrap ((i : Int) + 1) = (i : Int) + 1 := by rw [IntKind.wrap_i64]; omega
      obtain ⟨x, hx⟩ : ∃ x, l[i]? = some x := ⟨_, List.getElem?_eq_getElem hil⟩
      obtain ⟨g, cg, eg, _, _, _, z⟩ := (h.keep hB).full (by omega)
      obtain ⟨rfl, _, rfl⟩ : ao = some ⟨g, 0, none⟩ ∧ True ∧ ac = cg := by simpa using eg
      obtain ⟨n1, n2⟩ := z i x hx
      have hd : l.drop i = x :: l.drop (i + 1) := by
        obtain ⟨hh, rfl⟩ := List.getElem?_eq_some_iff.1 hx
        rw [List.drop_eq_getElem_cons hh]
      rw [hd] at hRi
      have cn := fun w => r8number_any (strB x.2) w
      cases hok : numOk (strB x.2)
      · rw [nums_no ns hok] at hRi
        have hv0 : numV (strB x.2) = 0 := by unfold numV; rw [hok]; rfl
        rw [hok, hv0] at cn
        obtain ⟨X, hX⟩ : ∃ X, x.1 = X := ⟨_, rfl⟩
        rw [hX] at n1 hRi
        subst hRi
        obtain ⟨S, hS⟩ : ∃ S, strB x.2 = S := ⟨_, rfl⟩
        rw [hS] at n2 cn
        have HB := Lib.hid hB
        clear z eg hx hd hown hB h hok hX hS hi hil hns hv0 hlB
        go_wp2_with fail
        refine (cn _).mono ?_
        rintro e w1 ⟨rfl, rfl⟩
        clear cn
        go_wp2_with fail
        go_quiet (fail)
        go_wp2
        go_ret2
        exact .inr ⟨X, rfl, rfl, HB.out.trans (show Dr _ _ from ⟨_, rfl⟩).q.b⟩
      · rw [nums_yes ns hok] at hRi
        rw [hok] at cn
        obtain ⟨V, hV⟩ : ∃ V, numV (strB x.2) = V := ⟨_, rfl⟩
        rw [hV] at hRi cn
        obtain ⟨S, hS⟩ : ∃ S, strB x.2 = S := ⟨_, rfl⟩
        rw [hS] at n2 cn
        have own2 := row_keep hown ((B.refl wo).alloc #[.int .i64 (V : Int)] 2)
        have B2 := hB.alloc #[.int .i64 (V : Int)] 2
        have hb2 := B2.below.size
        have hcl : cellsI (ns ++ [V]) = cellsI ns ++ [.int .i64 (V : Int)] := by unfold cellsI; rw [List.map_append]; rfl
        have HS := Lib.hid (And.intro hcl (And.intro B2 (And.intro hns (And.intro hil hRi))))
        have h16 : ns.length ≤ 65536 := by omega
        clear z eg hx hd hown hB h hok hV hS hi hil hns hRi hcl B2
        go_wp2_with fail
        refine (cn _).mono ?_
        rintro e w1 ⟨rfl, rfl⟩
        clear cn
        go_wp2_with (at_builtin; refine wpList_append_lies _ rfl _ _ 75 rfl w.heap.size 2 ib _ 1 8 Tryz.underlying75 hib hz0 hz1 hz2 rfl (by omega) (.slice o ns.length c) ns.length (cellsI ns) rfl own2 ⟨wo.heap.size, 0, none⟩ 1 1 [.int .i64 (V : Int)] rfl rfl (newest rfl) (fun u hu => by simp at hu; rw [hu]; rfl) (by omega) (by unfold maxLen; omega) (by omega) hb2 _ rfl ?_; intro gb cp W4 hown4 hgrow hat4 hlt4; have B4 := HS.out.2.1.grownBy hgrow (fun x hx => (own2.lt x hx).1); rw [← HS.out.1] at hown4; clear hgrow hat4 hlt4 own2; go_wp2_with fail)
        go_roundw
        case rel => exact ⟨i + 1, some ⟨gb, 0, none⟩, cp, ns ++ [V], by have := HS.out.2.2.2.1; omega, by go_num, by simp, by have := HS.out.2.2.1; simp; omega, by simpa using hown4, HS.out.2.2.2.2, B4⟩
        case measure => have := HS.out.2.2.2.1; simp [intOf]; omega
    · have hlB : decide ((i : Int) < (l.length : Int)) = false := decide_eq_false (by omega)
      rw [List.drop_eq_nil_of_le (by omega), nums_none] at hRi
      have HB := Lib.hid (And.intro (ints_own hown rfl) hB)
      subst hRi
      clear hown hB h hi hns
      go_wp2
      go_ret2
      exact .inl ⟨_, ns, rfl, rfl, HB.out.1, HB.out.2⟩
end Go.Proofs.YtflklpflpjdbmaaGreatDoor

namespace Go.Proofs.YtflklpflpjdbmaaGreatDoor
open Go.RowKit
def Sec.agg (s : Sec) : Value := .agg #[.bool s.r, .int .i64 s.h, .int .i64 s.a0, .int .i64 s.b0, .int .i64 s.a1, .int .i64 s.b1]
def sec0 : Sec := ⟨false, 0, 0, 0, 0, 0⟩
/-- What a section's line tells. -/
def SecRes (l : List Wd) (w : World) (e : Ending) (w' : World) : Prop :=
  (∃ s, secW l = .ok s ∧ e = .returned (.tuple #[s.agg, .int .i64 0, .int .i64 0]) ∧ B w w') ∨
  (∃ p n : Nat, secW l = .error (p, n) ∧ e = .returned (.tuple #[sec0.agg, .int .i64 (p : Int), .int .i64 (n : Int)]) ∧ B w w')
theorem numsW_len : ∀ (l : List Wd) (ns : List Nat), numsW l = .ok ns → ns.length = l.length
  | [], ns, h => by cases h; rfl
  | x :: l, ns, h => by
    rw [numsW] at h
    split at h
    · cases e : numsW l with
      | ok r =>
        rw [e] at h
        cases h
        simp [numsW_len l r e]
      | error p => rw [e] at h; cases h
    · cases h
theorem IsInts.at_ {w : World} {v : Value} {ns : List Nat} (h : IsInts w v ns) {i : Nat} (hi : i < ns.length) : ∃ g cap, v = .slice (some ⟨g, 0, none⟩) ns.length cap ∧ w.cell? ⟨g, i, none⟩ = some (.int .i64 ((ns[i] : Nat) : Int)) := by
  rcases h with ⟨_, rfl⟩ | ⟨g, cap, h1, _, _, h4⟩
  · simp at hi
  · exact ⟨g, cap, h1, h4 i _ (List.getElem?_eq_getElem hi)⟩
theorem obj_six {w : World} {b : Nat} {a0 a1 a2 a3 a4 a5 : Value} {t : TypeId} (h : w.heap[b]? = some (.cells #[a0, a1, a2, a3, a4, a5] t (0, 0))) (x0 x1 x2 x3 x4 x5 : Value) :
    ((((((w.setCell ⟨b, 0, none⟩ x0).setCell ⟨b, 1, none⟩ x1).setCell ⟨b, 2, none⟩ x2).setCell ⟨b, 3, none⟩ x3).setCell ⟨b, 4, none⟩ x4).setCell ⟨b, 5, none⟩ x5).heap[b]? = some (.cells #[x0, x1, x2, x3, x4, x5] t (0, 0)) := by
  have := obj_set (obj_set (obj_set (obj_set (obj_set (obj_set h 0 x0) 1 x1) 2 x2) 3 x3) 4 x4) 5 x5
  simpa using this
theorem b_six {u w : World} (h : B u w) {b : Nat} (hb : u.heap.size ≤ b) (x0 x1 x2 x3 x4 x5 : Value) :
    B u ((((((w.setCell ⟨b, 0, none⟩ x0).setCell ⟨b, 1, none⟩ x1).setCell ⟨b, 2, none⟩ x2).setCell ⟨b, 3, none⟩ x3).setCell ⟨b, 4, none⟩ x4).setCell ⟨b, 5, none⟩ x5) :=
  B.setCell (p := ⟨b, 5, none⟩) (B.setCell (p := ⟨b, 4, none⟩) (B.setCell (p := ⟨b, 3, none⟩) (B.setCell (p := ⟨b, 2, none⟩) (B.setCell (p := ⟨b, 1, none⟩) (B.setCell (p := ⟨b, 0, none⟩) h hb _) hb _) hb _) hb _) hb _) hb _
set_option maxHeartbeats 4000000 in
set_option maxRecDepth 100000 in
theorem r8section_any (v : Value) (k : Wd) (l : List Wd) (w : World) (h : IsWords w v (k :: l)) (hl : l.length < 65536) : Calls Tryz.prog 59 #[v] w (SecRes (k :: l) w) := by
  obtain ⟨g, ac, rfl, hle, hm, hlt, z⟩ := h.full (by simp)
  obtain ⟨z1, z2⟩ := z 0 k rfl
  have hQ := (B.refl w).alloc #[.bool false, .int .i64 0, .int .i64 0, .int .i64 0, .int .i64 0, .int .i64 0] 37
  have ob : (w.alloc (.cells #[.bool false, .int .i64 0, .int .i64 0, .int .i64 0, .int .i64 0, .int .i64 0] 37)).heap[w.heap.size]? = some (.cells #[.bool false, .int .i64 0, .int .i64 0, .int .i64 0, .int .i64 0, .int .i64 0] 37 (0, 0)) := heap_alloc_new w _
  obtain ⟨KA, hKA⟩ : ∃ KA, k.1 = KA := ⟨_, rfl⟩
  obtain ⟨KS, hKS⟩ : ∃ KS, strB k.2 = KS := ⟨_, rfl⟩
  rw [hKA] at z1
  rw [hKS] at z2
  have hwI := h.keep hQ
  have hbx : (KS.toList == [98, 111, 120]) = decide (k.2 = kBox) := by
    rw [← hKS]
    have e : (strB k.2).toList = k.2 := by rw [toList_data]; simp [strB]
    rw [e]
    unfold kBox
    by_cases c : k.2 = [98, 111, 120] <;> simp [c]
  have y1 := hQ.keep z1
  have y2 := hQ.keep z2
  have cn := r8numbers_any _ (k :: l) 1 _ hwI (by simp) (by simp; omega)
  unfold NumsRes at cn
  rw [show (k :: l).drop 1 = l from rfl] at cn
  rw [Nat.zero_mul] at y1 y2
  unfold SecRes
  rw [secW, hKA]
  clear h z z1 z2 hKA hKS hle hm hlt hwI
  cases hb : decide (k.2 = kBox)
  · rw [hb] at hbx
    rw [if_neg (show ¬ k.2 = kBox from of_decide_eq_false hb)]
    by_cases hc : l.length = 3
    · rw [if_neg (by omega)]
      have hcB : ((l.length : Int) + 1 != 4) = false := by simp; omega
      replace hQ := Lib.hid hQ
      have Hc := Lib.hid hc
      clear hb hc
      cases en : numsW l with
      | ok ns =>
        rw [en] at cn
        have hnl := numsW_len l ns en
        rw [Hc.out] at hnl
        obtain ⟨nh, n0, n1, rfl⟩ : ∃ nh n0 n1 : Nat, ns = [nh, n0, n1] := by
          match ns, hnl with
          | [a, b, c], _ => exact ⟨a, b, c, rfl⟩
        clear en hnl
        go_enter Tryz.func59, Tryz.ntmps59
        go_wp2_with fail
        refine cn.mono ?_
        clear cn
        rintro e w1 (⟨v1, ns, en, rfl, hv1, q1⟩ | ⟨p, en, _⟩)
        rotate_left
        · cases en
        cases en
        rcases hv1 with ⟨_, hh⟩ | ⟨gi, ci, rfl, _, _, zi⟩
        · cases hh
        have i0 := zi 0 nh rfl
        have i1 := zi 1 n0 rfl
        have i2 := zi 2 n1 rfl
        have ob1 := q1.obj ob
        have b0 := obj_cell ob1 0
        have f0 := obj_free ob1 0
        have b1 := obj_cell ob1 1
        have f1 := obj_free ob1 1
        have b2 := obj_cell ob1 2
        have f2 := obj_free ob1 2
        have b3 := obj_cell ob1 3
        have f3 := obj_free ob1 3
        have b4 := obj_cell ob1 4
        have f4 := obj_free ob1 4
        have b5 := obj_cell ob1 5
        have f5 := obj_free ob1 5
        simp only [List.getElem?_toArray, List.getElem?_cons_zero, List.getElem?_cons_succ] at b0 b1 b2 b3 b4 b5
        have hgi : ¬ gi = w.heap.size := fun e => by rw [e] at i0; rw [b0] at i0; cases i0
        have B0 := hQ.out.trans q1
        clear q1 zi ob
        go_wp2_with fail
        go_region
        go_wp2
        have ob6 := obj_six ob1 (.bool true) (.int .i64 (nh : Int)) (.int .i64 (n0 : Int)) (.int .i64 0) (.int .i64 (n1 : Int)) (.int .i64 0)
        have B6 := b_six B0 (Nat.le_refl _) (.bool true) (.int .i64 (nh : Int)) (.int .i64 (n0 : Int)) (.int .i64 0) (.int .i64 (n1 : Int)) (.int .i64 0)
        clear b0 b1 b2 b3 b4 b5 f0 f1 f2 f3 f4 f5 ob1 B0
        generalize ((((((w1.setCell ⟨w.heap.size, 0, none⟩ (.bool true)).setCell ⟨w.heap.size, 1, none⟩ (.int .i64 (nh : Int))).setCell ⟨w.heap.size, 2, none⟩ (.int .i64 (n0 : Int))).setCell ⟨w.heap.size, 3, none⟩ (.int .i64 0)).setCell ⟨w.heap.size, 4, none⟩ (.int .i64 (n1 : Int))).setCell ⟨w.heap.size, 5, none⟩ (.int .i64 0)) = W6 at *
        have c0 := obj_cell ob6 0
        have c1 := obj_cell ob6 1
        have c2 := obj_cell ob6 2
        have c3 := obj_cell ob6 3
        have c4 := obj_cell ob6 4
        have c5 := obj_cell ob6 5
        simp only [List.getElem?_toArray, List.getElem?_cons_zero, List.getElem?_cons_succ] at c0 c1 c2 c3 c4 c5
        exact bodyPost_ret (v := .tuple #[.agg #[.bool true, .int .i64 (nh : Int), .int .i64 (n0 : Int), .int .i64 0, .int .i64 (n1 : Int), .int .i64 0], .int .i64 0, .int .i64 0]) (by simp [results, Tryz.results59, go_sem, c0, c1, c2, c3, c4, c5]) rfl (.inl ⟨⟨true, (nh : Int), (n0 : Int), 0, (n1 : Int), 0⟩, rfl, rfl, B6.drew⟩)
      | error p =>
        rw [en] at cn
        clear en
        go_enter Tryz.func59, Tryz.ntmps59
        go_wp2_with fail
        refine cn.mono ?_
        clear cn
        rintro e w1 (⟨v1, ns, en, _⟩ | ⟨p, en, rfl, q1⟩)
        · cases en
        cases en
        have ob1 := q1.obj ob
        have b0 := obj_cell ob1 0
        have f0 := obj_free ob1 0
        have b1 := obj_cell ob1 1
        have f1 := obj_free ob1 1
        have b2 := obj_cell ob1 2
        have f2 := obj_free ob1 2
        have b3 := obj_cell ob1 3
        have f3 := obj_free ob1 3
        have b4 := obj_cell ob1 4
        have f4 := obj_free ob1 4
        have b5 := obj_cell ob1 5
        have f5 := obj_free ob1 5
        simp only [List.getElem?_toArray, List.getElem?_cons_zero, List.getElem?_cons_succ] at b0 b1 b2 b3 b4 b5
        have B0 := hQ.out.trans q1
        clear q1 ob
        go_wp2
        have ob6 := obj_six ob1 (.bool false) (.int .i64 0) (.int .i64 0) (.int .i64 0) (.int .i64 0) (.int .i64 0)
        have B6 := b_six B0 (Nat.le_refl _) (.bool false) (.int .i64 0) (.int .i64 0) (.int .i64 0) (.int .i64 0) (.int .i64 0)
        clear b0 b1 b2 b3 b4 b5 f0 f1 f2 f3 f4 f5 ob1 B0
        generalize ((((((w1.setCell ⟨w.heap.size, 0, none⟩ (.bool false)).setCell ⟨w.heap.size, 1, none⟩ (.int .i64 0)).setCell ⟨w.heap.size, 2, none⟩ (.int .i64 0)).setCell ⟨w.heap.size, 3, none⟩ (.int .i64 0)).setCell ⟨w.heap.size, 4, none⟩ (.int .i64 0)).setCell ⟨w.heap.size, 5, none⟩ (.int .i64 0)) = W6 at *
        have c0 := obj_cell ob6 0
        have c1 := obj_cell ob6 1
        have c2 := obj_cell ob6 2
        have c3 := obj_cell ob6 3
        have c4 := obj_cell ob6 4
        have c5 := obj_cell ob6 5
        simp only [List.getElem?_toArray, List.getElem?_cons_zero, List.getElem?_cons_succ] at c0 c1 c2 c3 c4 c5
        exact bodyPost_ret (v := .tuple #[.agg #[.bool false, .int .i64 0, .int .i64 0, .int .i64 0, .int .i64 0, .int .i64 0], .int .i64 (p : Int), .int .i64 20]) (by simp [results, Tryz.results59, go_sem, c0, c1, c2, c3, c4, c5]) rfl (.inr ⟨p, 20, rfl, rfl, B6⟩)
    · rw [if_pos hc]
      have hcB : ((l.length : Int) + 1 != 4) = true := by simp; omega
      replace hQ := Lib.hid hQ
      clear hb cn ob
      go_enter Tryz.func59, Tryz.ntmps59
      go_wp2_with fail
      go_region
      go_wp2
      exact bodyPost_ret (v := .tuple #[.agg #[.bool false, .int .i64 0, .int .i64 0, .int .i64 0, .int .i64 0, .int .i64 0], .int .i64 (KA : Int), .int .i64 24]) (by simp [results, Tryz.results59, go_sem, *]) rfl (.inr ⟨KA, 24, rfl, rfl, hQ.out.drew⟩)
  · rw [hb] at hbx
    rw [if_pos (show k.2 = kBox from of_decide_eq_true hb)]
    by_cases hc : l.length = 5
    · rw [if_neg (by omega)]
      have hcB : ((l.length : Int) + 1 != 6) = false := by simp; omega
      replace hQ := Lib.hid hQ
      have Hc := Lib.hid hc
      clear hb hc
      cases en : numsW l with
      | ok ns =>
        rw [en] at cn
        have hnl := numsW_len l ns en
        rw [Hc.out] at hnl
        obtain ⟨nh, n0, n1, n2, n3, rfl⟩ : ∃ nh n0 n1 n2 n3 : Nat, ns = [nh, n0, n1, n2, n3] := by
          match ns, hnl with
          | [a, b, c, d, e], _ => exact ⟨a, b, c, d, e, rfl⟩
        clear en hnl
        go_enter Tryz.func59, Tryz.ntmps59
        go_wp2_with fail
        refine cn.mono ?_
        clear cn
        rintro e w1 (⟨v1, ns, en, rfl, hv1, q1⟩ | ⟨p, en, _⟩)
        rotate_left
        · cases en
        cases en
        rcases hv1 with ⟨_, hh⟩ | ⟨gi, ci, rfl, _, _, zi⟩
        · cases hh
        have i0 := zi 0 nh rfl
        have i1 := zi 1 n0 rfl
        have i2 := zi 2 n1 rfl
        have i3 := zi 3 n2 rfl
        have i4 := zi 4 n3 rfl
        have ob1 := q1.obj ob
        have b0 := obj_cell ob1 0
        have f0 := obj_free ob1 0
        have b1 := obj_cell ob1 1
        have f1 := obj_free ob1 1
        have b2 := obj_cell ob1 2
        have f2 := obj_free ob1 2
        have b3 := obj_cell ob1 3
        have f3 := obj_free ob1 3
        have b4 := obj_cell ob1 4
        have f4 := obj_free ob1 4
        have b5 := obj_cell ob1 5
        have f5 := obj_free ob1 5
        simp only [List.getElem?_toArray, List.getElem?_cons_zero, List.getElem?_cons_succ] at b0 b1 b2 b3 b4 b5
        have hgi : ¬ gi = w.heap.size := fun e => by rw [e] at i0; rw [b0] at i0; cases i0
        have B0 := hQ.out.trans q1
        clear q1 zi ob
        go_wp2_with fail
        go_region
        go_wp2
        have ob6 := obj_six ob1 (.bool false) (.int .i64 (nh : Int)) (.int .i64 (n0 : Int)) (.int .i64 (n1 : Int)) (.int .i64 (n2 : Int)) (.int .i64 (n3 : Int))
        have B6 := b_six B0 (Nat.le_refl _) (.bool false) (.int .i64 (nh : Int)) (.int .i64 (n0 : Int)) (.int .i64 (n1 : Int)) (.int .i64 (n2 : Int)) (.int .i64 (n3 : Int))
        clear b0 b1 b2 b3 b4 b5 f0 f1 f2 f3 f4 f5 ob1 B0
        generalize ((((((w1.setCell ⟨w.heap.size, 0, none⟩ (.bool false)).setCell ⟨w.heap.size, 1, none⟩ (.int .i64 (nh : Int))).setCell ⟨w.heap.size, 2, none⟩ (.int .i64 (n0 : Int))).setCell ⟨w.heap.size, 3, none⟩ (.int .i64 (n1 : Int))).setCell ⟨w.heap.size, 4, none⟩ (.int .i64 (n2 : Int))).setCell ⟨w.heap.size, 5, none⟩ (.int .i64 (n3 : Int))) = W6 at *
        have c0 := obj_cell ob6 0
        have c1 := obj_cell ob6 1
        have c2 := obj_cell ob6 2
        have c3 := obj_cell ob6 3
        have c4 := obj_cell ob6 4
        have c5 := obj_cell ob6 5
        simp only [List.getElem?_toArray, List.getElem?_cons_zero, List.getElem?_cons_succ] at c0 c1 c2 c3 c4 c5
        exact bodyPost_ret (v := .tuple #[.agg #[.bool false, .int .i64 (nh : Int), .int .i64 (n0 : Int), .int .i64 (n1 : Int), .int .i64 (n2 : Int), .int .i64 (n3 : Int)], .int .i64 0, .int .i64 0]) (by simp [results, Tryz.results59, go_sem, c0, c1, c2, c3, c4, c5]) rfl (.inl ⟨⟨false, (nh : Int), (n0 : Int), (n1 : Int), (n2 : Int), (n3 : Int)⟩, rfl, rfl, B6.drew⟩)
      | error p =>
        rw [en] at cn
        clear en
        go_enter Tryz.func59, Tryz.ntmps59
        go_wp2_with fail
        refine cn.mono ?_
        clear cn
        rintro e w1 (⟨v1, ns, en, _⟩ | ⟨p, en, rfl, q1⟩)
        · cases en
        cases en
        have ob1 := q1.obj ob
        have b0 := obj_cell ob1 0
        have f0 := obj_free ob1 0
        have b1 := obj_cell ob1 1
        have f1 := obj_free ob1 1
        have b2 := obj_cell ob1 2
        have f2 := obj_free ob1 2
        have b3 := obj_cell ob1 3
        have f3 := obj_free ob1 3
        have b4 := obj_cell ob1 4
        have f4 := obj_free ob1 4
        have b5 := obj_cell ob1 5
        have f5 := obj_free ob1 5
        simp only [List.getElem?_toArray, List.getElem?_cons_zero, List.getElem?_cons_succ] at b0 b1 b2 b3 b4 b5
        have B0 := hQ.out.trans q1
        clear q1 ob
        go_wp2
        have ob6 := obj_six ob1 (.bool false) (.int .i64 0) (.int .i64 0) (.int .i64 0) (.int .i64 0) (.int .i64 0)
        have B6 := b_six B0 (Nat.le_refl _) (.bool false) (.int .i64 0) (.int .i64 0) (.int .i64 0) (.int .i64 0) (.int .i64 0)
        clear b0 b1 b2 b3 b4 b5 f0 f1 f2 f3 f4 f5 ob1 B0
        generalize ((((((w1.setCell ⟨w.heap.size, 0, none⟩ (.bool false)).setCell ⟨w.heap.size, 1, none⟩ (.int .i64 0)).setCell ⟨w.heap.size, 2, none⟩ (.int .i64 0)).setCell ⟨w.heap.size, 3, none⟩ (.int .i64 0)).setCell ⟨w.heap.size, 4, none⟩ (.int .i64 0)).setCell ⟨w.heap.size, 5, none⟩ (.int .i64 0)) = W6 at *
        have c0 := obj_cell ob6 0
        have c1 := obj_cell ob6 1
        have c2 := obj_cell ob6 2
        have c3 := obj_cell ob6 3
        have c4 := obj_cell ob6 4
        have c5 := obj_cell ob6 5
        simp only [List.getElem?_toArray, List.getElem?_cons_zero, List.getElem?_cons_succ] at c0 c1 c2 c3 c4 c5
        exact bodyPost_ret (v := .tuple #[.agg #[.bool false, .int .i64 0, .int .i64 0, .int .i64 0, .int .i64 0, .int .i64 0], .int .i64 (p : Int), .int .i64 20]) (by simp [results, Tryz.results59, go_sem, c0, c1, c2, c3, c4, c5]) rfl (.inr ⟨p, 20, rfl, rfl, B6⟩)
    · rw [if_pos hc]
      have hcB : ((l.length : Int) + 1 != 6) = true := by simp; omega
      replace hQ := Lib.hid hQ
      clear hb cn ob
      go_enter Tryz.func59, Tryz.ntmps59
      go_wp2_with fail
      go_region
      go_wp2
      exact bodyPost_ret (v := .tuple #[.agg #[.bool false, .int .i64 0, .int .i64 0, .int .i64 0, .int .i64 0, .int .i64 0], .int .i64 (KA : Int), .int .i64 24]) (by simp [results, Tryz.results59, go_sem, *]) rfl (.inr ⟨KA, 24, rfl, rfl, hQ.out.drew⟩)
end Go.Proofs.YtflklpflpjdbmaaGreatDoor
