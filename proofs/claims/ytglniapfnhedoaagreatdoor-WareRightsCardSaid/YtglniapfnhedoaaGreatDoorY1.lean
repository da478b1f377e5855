/-
 Contracts and what they rest on.
-/
import Derived.Lib.Hide
import Derived.Lib.ItoaMem
import Derived.Lib.Strings
import Derived.WalkKit
import Derived.Laws.Bits64b
import Derived.RowKit3
import Derived.Deep.RegionHeld3
import Derived.KernelRfl
import Derived.Deep.Draws
import Derived.Deep.AppendLies
namespace Go.Proofs.YtglniapfnhedoaaGreatDoor
theorem sZ {α : Type _} {a b : α} {l : List α} : (a :: l).set 0 b = b :: l := rfl
theorem sS {α : Type _} {a b : α} {l : List α} {n : Nat} : (a :: l).set (n + 1) b = a :: l.set n b := rfl
open Go.RowKit
def byteAt (s : ByteArray) (i : Nat) : Nat := (s.data.toList.getD i 0).toNat
def lowN (n : Nat) : Bool := decide (97 ≤ n) && decide (n ≤ 122)
def digN (n : Nat) : Bool := decide (48 ≤ n) && decide (n ≤ 57)
def nameS (s : ByteArray) : Bool := decide (1 ≤ s.size) && decide (s.size ≤ 16) && lowN (byteAt s 0) && (List.range s.size).all fun i => lowN (byteAt s i) || digN (byteAt s i)
theorem byteAt_get (s : ByteArray) (i : Nat) (h : i < s.size) : (s[i]'h).toNat = byteAt s i := by
 obtain ⟨⟨l⟩⟩ := s
 have h' : i < l.length := h
 show l[i].toNat = (l.getD i 0).toNat
 rw [List.getD_eq_getElem?_getD, List.getElem?_eq_getElem h']
 rfl
theorem nameS_size {s : ByteArray} (h : s.size < 1 ∨ 16 < s.size) : nameS s = false := by
 unfold nameS
 rcases h with h | h
 ·rw [decide_eq_false (show ¬ 1 ≤ s.size by omega)]; simp
 ·rw [decide_eq_false (show ¬ s.size ≤ 16 by omega)]; simp
theorem nameS_first {s : ByteArray} (h : lowN (byteAt s 0) = false) : nameS s = false := by
 unfold nameS; rw [h]; simp
theorem nameS_bad {s : ByteArray} {i : Nat} (hi : i < s.size) (h : (lowN (byteAt s i) || digN (byteAt s i)) = false) : nameS s = false := by
 have : ((List.range s.size).all fun i => lowN (byteAt s i) || digN (byteAt s i)) = false := by
  rw [List.all_eq_false]
  exact ⟨i, List.mem_range.2 hi, by simpa using h⟩
 unfold nameS; rw [this]; simp
theorem nameS_good {s : ByteArray} (h1 : 1 ≤ s.size) (h2 : s.size ≤ 16) (h3 : lowN (byteAt s 0) = true) (h : ∀ i, i < s.size → (lowN (byteAt s i) || digN (byteAt s i)) = true) : nameS s = true := by
 unfold nameS
 rw [decide_eq_true h1, decide_eq_true h2, h3]
 simp only [Bool.true_and]
 exact List.all_eq_true.2 fun i hi => h i (List.mem_range.1 hi)
end Go.Proofs.YtglniapfnhedoaaGreatDoor
namespace Go.Proofs.YtglniapfnhedoaaGreatDoor
open Go.RowKit
abbrev Wd := Nat × List UInt8
def capN (n : Nat) : Bool := decide (65 ≤ n) && decide (n ≤ 90)
def partN (n : Nat) : Bool := lowN n || capN n || digN n || decide (n = 46)
def kindN (n : Nat) : Nat := if lowN n then 1 else if capN n then 2 else if digN n then 3 else if n = 46 then 4 else if n = 32 ∨ n = 9 then 5 else if n = 10 then 6 else if n = 35 then 7 else 0
def flushW (line : List Wd) (p : Nat) (w : List UInt8) : List Wd := if w = [] then line else line ++ [(p - w.length, w)]
def flushL (out : List (List Wd)) (line : List Wd) : List (List Wd) := if line = [] then out else out ++ [line]
def scan : List UInt8 → Nat → List (List Wd) → List Wd → List UInt8 → Bool → List (List Wd) × Nat × Nat
 | [], p, out, line, w, _ => (flushL out (flushW line p w), 0, 0)
 | c :: cs, p, out, line, w, note =>
  if c.toNat = 10 then scan cs (p + 1) (flushL out (flushW line p w)) [] [] false
  else if note then scan cs (p + 1) out line [] true
  else if partN c.toNat then scan cs (p + 1) out line (w ++ [c]) false
  else if c.toNat = 35 then scan cs (p + 1) out (flushW line p w) [] true
  else if c.toNat = 32 ∨ c.toNat = 9 then scan cs (p + 1) out (flushW line p w) [] false
  else ([], p, 24)
def linesB (bs : List UInt8) : List (List Wd) × Nat × Nat := if 65536 < bs.length then ([], 65536, 27) else scan bs 0 [] [] [] false
theorem drop_at {bs : List UInt8} {i : Nat} {c : UInt8} (h : bs[i]? = some c) : bs.drop i = c :: bs.drop (i + 1) := by
 obtain ⟨hi, rfl⟩ := List.getElem?_eq_some_iff.1 h
 rw [List.drop_eq_getElem_cons hi]
theorem drop_end {bs : List UInt8} {i : Nat} (h : bs.length ≤ i) : bs.drop i = [] := List.drop_eq_nil_of_le h
section
variable {bs : List UInt8} {p : Nat} {c : UInt8} {out : List (List Wd)} {line : List Wd} {w : List UInt8} {note : Bool}
theorem scan_end (h : bs.length ≤ p) {q : Nat} : scan (bs.drop p) q out line w note = (flushL out (flushW line q w), 0, 0) := by
 rw [drop_end h]; rfl
theorem scan_feed (h : bs[p]? = some c) (hc : c.toNat = 10) : scan (bs.drop p) p out line w note = scan (bs.drop (p + 1)) (p + 1) (flushL out (flushW line p w)) [] [] false := by
 rw [drop_at h, scan, if_pos hc]
theorem scan_note (h : bs[p]? = some c) (hc : c.toNat ≠ 10) : scan (bs.drop p) p out line [] true = scan (bs.drop (p + 1)) (p + 1) out line [] true := by
 rw [drop_at h, scan, if_neg hc, if_pos rfl]
theorem part_cases {n : Nat} (h : partN n = true) : n ≠ 10 ∧ n ≠ 35 ∧ n ≠ 32 ∧ n ≠ 9 := by
 refine ⟨?_, ?_, ?_, ?_⟩ <;> · rintro rfl; exact absurd h (by decide)
theorem scan_part (h : bs[p]? = some c) (hc : partN c.toNat = true) : scan (bs.drop p) p out line w false = scan (bs.drop (p + 1)) (p + 1) out line (w ++ [c]) false := by
 rw [drop_at h, scan, if_neg (part_cases hc).1, if_neg (by decide), if_pos hc]
theorem scan_hash (h : bs[p]? = some c) (hc : c.toNat = 35) : scan (bs.drop p) p out line w false = scan (bs.drop (p + 1)) (p + 1) out (flushW line p w) [] true := by
 rw [drop_at h, scan, if_neg (by omega), if_neg (by decide), if_neg (by rw [hc]; decide), if_pos hc]
theorem scan_gap (h : bs[p]? = some c) (hc : c.toNat = 32 ∨ c.toNat = 9) : scan (bs.drop p) p out line w false = scan (bs.drop (p + 1)) (p + 1) out (flushW line p w) [] false := by
 rw [drop_at h, scan, if_neg (by omega), if_neg (by decide), if_neg (by rcases hc with e | e <;> rw [e] <;> decide), if_neg (by omega), if_pos hc]
theorem scan_bad (h : bs[p]? = some c) (h1 : c.toNat ≠ 10) (h2 : partN c.toNat = false) (h3 : c.toNat ≠ 35) (h4 : ¬ (c.toNat = 32 ∨ c.toNat = 9)) : scan (bs.drop p) p out line w false = ([], p, 24) := by
 rw [drop_at h, scan, if_neg h1, if_neg (by decide), if_neg (by rw [h2]; decide), if_neg h3, if_neg h4]
theorem scan_word (h : bs.length ≤ p ∨ ∃ c, bs[p]? = some c ∧ partN c.toNat = false) (hw : w ≠ []) : scan (bs.drop p) p out line w false = scan (bs.drop p) p out (line ++ [(p - w.length, w)]) [] false := by
 have e : flushW line p w = line ++ [(p - w.length, w)] := if_neg hw
 have e2 : ∀ l : List Wd, flushW l p [] = l := fun l => if_pos rfl
 rcases h with h | ⟨c, h, hc⟩
 ·rw [scan_end h, scan_end h, e, e2]
 ·rw [drop_at h]
  unfold scan
  rw [e, e2, hc]
  simp
theorem scan_noted (h : bs.length ≤ p ∨ ∃ c, bs[p]? = some c ∧ c.toNat = 10) : scan (bs.drop p) p out line [] true = scan (bs.drop p) p out line [] false := by
 rcases h with h | ⟨c, h, hc⟩
 ·rw [scan_end h, scan_end h]
 ·rw [scan_feed h hc, scan_feed h hc]
theorem scan_skip {q : Nat} (hpq : p ≤ q) (hq : q ≤ bs.length) (h : ∀ i, p ≤ i → i < q → ∀ c, bs[i]? = some c → c.toNat ≠ 10) : scan (bs.drop p) p out line [] true = scan (bs.drop q) q out line [] true := by
 obtain ⟨d, rfl⟩ : ∃ d, q = p + d := ⟨q - p, by omega⟩
 clear hpq
 induction d with
 | zero => rfl
 | succ d ih =>
  rw [ih (by omega) (fun i h1 h2 => h i h1 (by omega))]
  have hg : bs[p + d]? = some bs[p + d] := List.getElem?_eq_getElem (by omega)
  rw [scan_note hg (h _ (by omega) (by omega) _ hg)]
  rfl
end
def cut (bs : List UInt8) (i k : Nat) : List UInt8 := (bs.drop i).take (k - i)
theorem cut_len {bs : List UInt8} {i k : Nat} (h : i ≤ k) (hk : k ≤ bs.length) : (cut bs i k).length = k - i := by
 unfold cut; rw [List.length_take, List.length_drop]; omega
theorem cut_none (bs : List UInt8) (i : Nat) : cut bs i i = [] := by unfold cut; simp
theorem cut_succ {bs : List UInt8} {i k : Nat} {c : UInt8} (h : i ≤ k) (hg : bs[k]? = some c) : cut bs i (k + 1) = cut bs i k ++ [c] := by
 unfold cut
 rw [show k + 1 - i = (k - i) + 1 by omega, List.take_add_one, List.getElem?_drop, show i + (k - i) = k by omega, hg]
 rfl
theorem scan_run {bs : List UInt8} {i k : Nat} {out : List (List Wd)} {line : List Wd} (hik : i ≤ k) (hk : k ≤ bs.length) (h : ∀ j, i ≤ j → j < k → ∀ c, bs[j]? = some c → partN c.toNat = true) :
  scan (bs.drop i) i out line [] false = scan (bs.drop k) k out line (cut bs i k) false := by
 obtain ⟨d, rfl⟩ : ∃ d, k = i + d := ⟨k - i, by omega⟩
 clear hik
 induction d with
 | zero => rw [Nat.add_zero, cut_none]
 | succ d ih =>
  have hg : bs[i + d]? = some bs[i + d] := List.getElem?_eq_getElem (by omega)
  rw [ih (by omega) (fun j h1 h2 => h j h1 (by omega)), scan_part hg (h _ (by omega) (by omega) _ hg), ← Nat.add_assoc, cut_succ (i := i) (k := i + d) (by omega) hg]
theorem scan_whole {bs : List UInt8} {i k : Nat} {out : List (List Wd)} {line : List Wd} (hik : i < k) (hk : k ≤ bs.length) (h : ∀ j, i ≤ j → j < k → ∀ c, bs[j]? = some c → partN c.toNat = true)
  (he : bs.length ≤ k ∨ ∃ c, bs[k]? = some c ∧ partN c.toNat = false) :
  scan (bs.drop i) i out line [] false = scan (bs.drop k) k out (line ++ [(i, cut bs i k)]) [] false := by
 have hl := cut_len (by omega : i ≤ k) hk
 rw [scan_run (by omega) hk h, scan_word he (by intro e; rw [e] at hl; simp at hl; omega), hl, show k - (k - i) = i by omega]
theorem flushW_none (line : List Wd) (p : Nat) : flushW line p [] = line := if_pos rfl
theorem flushL_some {out : List (List Wd)} {line : List Wd} (h : line ≠ []) : flushL out line = out ++ [line] := if_neg h
theorem flushL_none (out : List (List Wd)) : flushL out [] = out := if_pos rfl
theorem kind_part (n : Nat) : partN n = true ↔ 1 ≤ kindN n ∧ kindN n ≤ 4 := by
 unfold partN kindN
 by_cases h1 : lowN n = true
 ·simp [h1]
 by_cases h2 : capN n = true
 ·simp [h1, h2]
 by_cases h3 : digN n = true
 ·simp [h1, h2, h3]
 by_cases h4 : n = 46
 ·subst h4; decide
 simp only [h1, h2, h3, h4, if_false, Bool.or_false, decide_false, Bool.false_eq_true, false_iff]
 by_cases h5 : n = 32 ∨ n = 9
 ·simp [h5]
 by_cases h6 : n = 10
 ·simp [h6]
 by_cases h7 : n = 35
 ·simp [h7]
 simp [h5, h6, h7]
theorem kind_le (n : Nat) : kindN n ≤ 7 := by
 unfold kindN
 repeat' split
 all_goals omega
theorem kind_five {n : Nat} (h : kindN n = 5) : (n = 32 ∨ n = 9) ∧ partN n = false := by
 have hp : partN n = false := by
  cases e : partN n
  ·rfl
  ·have := (kind_part n).1 e; omega
 refine ⟨?_, hp⟩
 unfold kindN at h
 split at h; · omega
 split at h; · omega
 split at h; · omega
 split at h; · omega
 split at h
 ·assumption
 split at h; · omega
 split at h <;> omega
theorem kind_six {n : Nat} (h : kindN n = 6) : n = 10 := by
 unfold kindN at h
 split at h; · omega
 split at h; · omega
 split at h; · omega
 split at h; · omega
 split at h; · omega
 split at h
 ·assumption
 split at h <;> omega
theorem kind_seven {n : Nat} (h : kindN n = 7) : n = 35 := by
 unfold kindN at h
 split at h; · omega
 split at h; · omega
 split at h; · omega
 split at h; · omega
 split at h; · omega
 split at h; · omega
 split at h
 ·assumption
 ·omega
theorem kind_zero {n : Nat} (h : kindN n = 0) : n ≠ 10 ∧ partN n = false ∧ n ≠ 35 ∧ ¬ (n = 32 ∨ n = 9) := by
 have hp : partN n = false := by
  cases e : partN n
  ·rfl
  ·have := (kind_part n).1 e; omega
 refine ⟨?_, hp, ?_, ?_⟩
 ·rintro rfl; exact absurd h (by decide)
 ·rintro rfl; exact absurd h (by decide)
 ·rintro (rfl | rfl) <;> exact absurd h (by decide)
end Go.Proofs.YtglniapfnhedoaaGreatDoor
namespace Go.Proofs.YtglniapfnhedoaaGreatDoor
open Go.RowKit
def valTo (s : ByteArray) : Nat → Nat
 | 0 => 0
 | k + 1 => valTo s k * 10 + (byteAt s k - 48)
def numOk (s : ByteArray) : Bool := decide (1 ≤ s.size) && !(decide (2 ≤ s.size) && decide (byteAt s 0 = 48)) && ((List.range s.size).all fun i => digN (byteAt s i)) && decide (valTo s s.size ≤ 1000000000000)
def numV (s : ByteArray) : Nat := if numOk s then valTo s s.size else 0
theorem digN_iff {n : Nat} : digN n = true ↔ 48 ≤ n ∧ n ≤ 57 := by unfold digN; simp
theorem numOk_iff {s : ByteArray} : numOk s = true ↔ 1 ≤ s.size ∧ ¬ (2 ≤ s.size ∧ byteAt s 0 = 48) ∧ (∀ i, i < s.size → digN (byteAt s i) = true) ∧ valTo s s.size ≤ 1000000000000 := by
 unfold numOk
 simp only [Bool.and_eq_true, decide_eq_true_eq, Bool.not_eq_true', List.all_eq_true, List.mem_range, Bool.and_eq_false_iff, decide_eq_false_iff_not]
 constructor
 ·rintro ⟨⟨⟨h1, h2⟩, h3⟩, h4⟩
  exact ⟨h1, fun h => h2.elim (fun a => a h.1) (fun a => a h.2), h3, h4⟩
 ·rintro ⟨h1, h2, h3, h4⟩
  refine ⟨⟨⟨h1, ?_⟩, h3⟩, h4⟩
  by_cases c : 2 ≤ s.size
  ·exact .inr fun e => h2 ⟨c, e⟩
  ·exact .inl c
theorem num_no {s : ByteArray} (h : ¬ (1 ≤ s.size ∧ ¬ (2 ≤ s.size ∧ byteAt s 0 = 48) ∧ (∀ i, i < s.size → digN (byteAt s i) = true) ∧ valTo s s.size ≤ 1000000000000)) : numOk s = false ∧ numV s = 0 := by
 have e : numOk s = false := by
  cases hh : numOk s
  ·rfl
  ·exact absurd (numOk_iff.1 hh) h
 refine ⟨e, ?_⟩
 unfold numV
 rw [e]
 rfl
theorem num_yes {s : ByteArray} (h : 1 ≤ s.size ∧ ¬ (2 ≤ s.size ∧ byteAt s 0 = 48) ∧ (∀ i, i < s.size → digN (byteAt s i) = true) ∧ valTo s s.size ≤ 1000000000000) : numOk s = true ∧ numV s = valTo s s.size := by
 have e := numOk_iff.2 h
 refine ⟨e, ?_⟩
 unfold numV
 rw [e]
 rfl
theorem valTo_mono (s : ByteArray) {k n : Nat} (h : k ≤ n) : valTo s k ≤ valTo s n := by
 obtain ⟨d, rfl⟩ : ∃ d, n = k + d := ⟨n - k, by omega⟩
 clear h
 induction d with
 | zero => exact Nat.le_refl _
 | succ d ih =>
  have : valTo s (k + (d + 1)) = valTo s (k + d) * 10 + (byteAt s (k + d) - 48) := rfl
  omega
theorem valTo_low (s : ByteArray) (h : 49 ≤ byteAt s 0) : ∀ k, 10 ^ k ≤ valTo s (k + 1)
 | 0 => by
  have : valTo s (0 + 1) = 0 * 10 + (byteAt s 0 - 48) := rfl
  rw [Nat.pow_zero]
  omega
 | k + 1 => by
  have ih := valTo_low s h k
  have : valTo s (k + 1 + 1) = valTo s (k + 1) * 10 + (byteAt s (k + 1) - 48) := rfl
  rw [Nat.pow_succ]
  omega
theorem num_first {s : ByteArray} (h : s.size ≠ 1) (h0 : byteAt s 0 = 48) : numOk s = false ∧ numV s = 0 := num_no fun ⟨h1, h2, _, _⟩ => h2 ⟨by omega, h0⟩
theorem num_bad {s : ByteArray} {i : Nat} (hi : i < s.size) (h : digN (byteAt s i) = false) : numOk s = false ∧ numV s = 0 := num_no fun ⟨_, _, h3, _⟩ => by rw [h3 i hi] at h; cases h
theorem num_big {s : ByteArray} {k : Nat} (hk : k ≤ s.size) (h : 1000000000000 < valTo s k) : numOk s = false ∧ numV s = 0 := num_no fun ⟨_, _, _, h4⟩ => by have := valTo_mono s hk; omega
theorem num_step {s : ByteArray} {k : Nat} (hd : digN (byteAt s k) = true) : ∃ d : Nat, byteAt s k = 48 + d ∧ d ≤ 9 ∧ valTo s (k + 1) = valTo s k * 10 + d := by
 have := digN_iff.1 hd
 exact ⟨byteAt s k - 48, by omega, by omega, rfl⟩
theorem num_short {s : ByteArray} {k : Nat} (h1 : ¬ (2 ≤ s.size ∧ byteAt s 0 = 48)) (hk : k ≤ s.size) (hd : ∀ i, i < k → digN (byteAt s i) = true) (hv : valTo s k ≤ 1000000000000) : k ≤ 13 := by
 rcases Nat.lt_or_ge 13 k with h | h
 ·have h0 := digN_iff.1 (hd 0 (by omega))
  have h5 : 49 ≤ byteAt s 0 := by
   have : byteAt s 0 ≠ 48 := fun e => h1 ⟨by omega, e⟩
   omega
  have h6 := valTo_low s h5 13
  have h7 := valTo_mono s (show 13 + 1 ≤ k by omega)
  have : (10 : Nat) ^ 13 = 10000000000000 := by decide
  omega
 ·exact h
theorem toList_data (s : ByteArray) : s.toList = s.data.toList := Go.Lib.toList_data s
theorem toList_empty (s : ByteArray) : s.toList.isEmpty = decide (s.size < 1) := by
 rw [toList_data]
 obtain ⟨⟨l⟩⟩ := s
 cases l <;> simp [ByteArray.size]
theorem toList_zero (s : ByteArray) : (s.toList == [48]) = (decide (s.size = 1) && decide (byteAt s 0 = 48)) := by
 rw [toList_data]
 obtain ⟨⟨l⟩⟩ := s
 rcases l with _ | ⟨x, _ | ⟨y, l⟩⟩
 ·rfl
 ·have : (x == 48) = decide (x.toNat = 48) := by
   by_cases c : x = 48
   ·subst c; rfl
   ·have : x.toNat ≠ 48 := fun e => c (UInt8.toNat.inj e)
    simp [c, this]
  simp [ByteArray.size, byteAt, this]
 ·simp [ByteArray.size]
end Go.Proofs.YtglniapfnhedoaaGreatDoor
namespace Go.Proofs.YtglniapfnhedoaaGreatDoor
open Go.RowKit
def I64 (v : Int) : Prop := -9223372036854775808 ≤ v ∧ v ≤ 9223372036854775807
instance (v : Int) : Decidable (I64 v) := inferInstanceAs (Decidable (_ ∧ _))
def qe (v : Int) : Int := if I64 v then 0 else 21
theorem i64_wf {n : Int} (w : (Lit.int .i64 n).wf = true) : I64 n := by
 simp [Lit.wf, IntKind.min, IntKind.max, IntKind.signed, IntKind.bits] at w
 unfold I64; omega
end Go.Proofs.YtglniapfnhedoaaGreatDoor
namespace Go.Proofs.YtglniapfnhedoaaGreatDoor
open Go.RowKit
def Dr (w w' : World) : Prop := ∃ n, w' = w.drewN n
theorem Dr.refl (w : World) : Dr w w := ⟨0, rfl⟩
theorem Dr.trans {a b c : World} (h : Dr a b) (k : Dr b c) : Dr a c := by
 obtain ⟨n, rfl⟩ := h
 obtain ⟨m, rfl⟩ := k
 exact ⟨n + m, World.drewN_drewN _ _ _⟩
structure Q (w w' : World) : Prop where
 below : Below w.heap.size w w'
 marks : ∀ a, w'.frozen? a = w.frozen? a
theorem Q.refl (w : World) : Q w w := ⟨Below.refl _ _, fun _ => rfl⟩
theorem Q.trans {a b c : World} (h : Q a b) (k : Q b c) : Q a c :=
 ⟨h.below.trans (k.below.mono h.below.size), fun x => (k.marks x).trans (h.marks x)⟩
theorem Q.drew {a w : World} (h : Q a w) : Q a w.drew := ⟨h.below.drew, h.marks⟩
theorem Q.drewN {a w : World} (h : Q a w) (n : Nat) : Q a (w.drewN n) := ⟨⟨h.below.os, h.below.tape, h.below.output, h.below.size, h.below.block⟩, h.marks⟩
theorem Q.dr {a b c : World} (h : Q a b) (k : Dr b c) : Q a c := by obtain ⟨n, rfl⟩ := k; exact h.drewN n
theorem Dr.q {a b : World} (k : Dr a b) : Q a b := (Q.refl a).dr k
theorem Q.grown {a w : World} (h : Q a w) : Grown a w := ⟨h.below.frame _, h.marks, h.below.size⟩
theorem Q.alloc {a w : World} (h : Q a w) (c : Array Value) (t : TypeId) : Q a (w.alloc (.cells c t)) :=
 ⟨h.below.alloc h.below.size _, fun x => ((Grown.refl w).alloc c t).2.1 x |>.trans (h.marks x)⟩
theorem Q.setCell {a w : World} (h : Q a w) {p : Addr} (hp : a.heap.size ≤ p.block) (v : Value) : Q a (w.setCell p v) :=
 ⟨h.below.setCell hp v, fun x => (World.frozen?_setCell _ _ _ _).trans (h.marks x)⟩
theorem Q.keep {w w' : World} (h : Q w w') {p : Addr} {v : Value} (hc : w.cell? p = some v) : w'.cell? p = some v := by
 rw [h.below.cell (World.block_lt_of_cell? w p hc)]; exact hc
structure B (w w' : World) : Prop where
 below : Below w.heap.size w w'
theorem Q.b {w w' : World} (h : Q w w') : B w w' := ⟨h.below⟩
theorem B.refl (w : World) : B w w := ⟨Below.refl _ _⟩
theorem B.trans {a b c : World} (h : B a b) (k : B b c) : B a c := ⟨h.below.trans (k.below.mono h.below.size)⟩
theorem B.drew {a w : World} (h : B a w) : B a w.drew := ⟨h.below.drew⟩
theorem B.drewN {a w : World} (h : B a w) (n : Nat) : B a (w.drewN n) := ⟨⟨h.below.os, h.below.tape, h.below.output, h.below.size, h.below.block⟩⟩
theorem B.alloc {a w : World} (h : B a w) (c : Array Value) (t : TypeId) : B a (w.alloc (.cells c t)) := ⟨h.below.alloc h.below.size _⟩
theorem B.setCell {a w : World} (h : B a w) {p : Addr} (hp : a.heap.size ≤ p.block) (v : Value) : B a (w.setCell p v) := ⟨h.below.setCell hp v⟩
theorem B.keep {w w' : World} (h : B w w') {p : Addr} {v : Value} (hc : w.cell? p = some v) : w'.cell? p = some v := by
 rw [h.below.cell (World.block_lt_of_cell? w p hc)]; exact hc
theorem B.grownBy {a w w' : World} {row : Option Nat} (h : B a w) (g : w.grownBy w' row) (hr : ∀ k, row = some k → a.heap.size ≤ k) : B a w' :=
 ⟨⟨g.os.trans h.below.os, g.tape.trans h.below.tape, g.output.trans h.below.output, Nat.le_trans h.below.size g.size, fun k hk => by
  rw [g.block k (Nat.lt_of_lt_of_le hk h.below.size) (fun e => by have := hr k e.symm; omega)]
  exact h.below.block k hk⟩⟩
end Go.Proofs.YtglniapfnhedoaaGreatDoor
namespace Go.Proofs.YtglniapfnhedoaaGreatDoor
open Go.RowKit
structure Sec where
 r : Bool
 h : Int
 a0 : Int
 b0 : Int
 a1 : Int
 b1 : Int
 deriving DecidableEq, Inhabited
def Sec.I (s : Sec) : Prop := I64 s.h ∧ I64 s.a0 ∧ I64 s.b0 ∧ I64 s.a1 ∧ I64 s.b1
def Sec.cells (s : Sec) : List Value := [.bool s.r, .int .i64 s.h, .int .i64 s.a0, .int .i64 s.b0, .int .i64 s.a1, .int .i64 s.b1]
structure SecAt (w : World) (p : Addr) (s : Sec) : Prop where
 r : w.cell? p = some (.bool s.r)
 h : w.cell? ⟨p.block, p.off + 1, none⟩ = some (.int .i64 s.h)
 a0 : w.cell? ⟨p.block, p.off + 2, none⟩ = some (.int .i64 s.a0)
 b0 : w.cell? ⟨p.block, p.off + 3, none⟩ = some (.int .i64 s.b0)
 a1 : w.cell? ⟨p.block, p.off + 4, none⟩ = some (.int .i64 s.a1)
 b1 : w.cell? ⟨p.block, p.off + 5, none⟩ = some (.int .i64 s.b1)
theorem SecAt.keep {w w' : World} {p : Addr} {s : Sec} (h : SecAt w p s) (q : Q w w') : SecAt w' p s :=
 ⟨q.keep h.r, q.keep h.h, q.keep h.a0, q.keep h.b0, q.keep h.a1, q.keep h.b1⟩
def IsSecs (w : World) (v : Value) (l : List Sec) : Prop :=
 (v = .slice none 0 0 ∧ l = []) ∨
 ∃ (a : Addr) (cap : Nat), v = .slice (some a) l.length cap ∧ l.length ≤ cap ∧ cap ≤ maxLen ∧ ∀ i s, l[i]? = some s → s.I ∧ SecAt w (a.add (i * 6)) s
theorem SecAt.keepB {w w' : World} {p : Addr} {s : Sec} (h : SecAt w p s) (q : B w w') : SecAt w' p s :=
 ⟨q.keep h.r, q.keep h.h, q.keep h.a0, q.keep h.b0, q.keep h.a1, q.keep h.b1⟩
theorem IsSecs.keepB {w w' : World} {v : Value} {l : List Sec} (h : IsSecs w v l) (q : B w w') : IsSecs w' v l := by
 rcases h with h | ⟨a, cap, h1, h2, h3, h4⟩
 ·exact .inl h
 ·exact .inr ⟨a, cap, h1, h2, h3, fun i s hs => ⟨(h4 i s hs).1, (h4 i s hs).2.keepB q⟩⟩
theorem IsSecs.keep {w w' : World} {v : Value} {l : List Sec} (h : IsSecs w v l) (q : Q w w') : IsSecs w' v l := by
 rcases h with h | ⟨a, cap, h1, h2, h3, h4⟩
 ·exact .inl h
 ·exact .inr ⟨a, cap, h1, h2, h3, fun i s hs => ⟨(h4 i s hs).1, (h4 i s hs).2.keep q⟩⟩
def flat (l : List Sec) : List Value := l.flatMap Sec.cells
theorem flat_get : ∀ (l : List Sec) (i j : Nat) (s : Sec), l[i]? = some s → j < 6 → (flat l)[i * 6 + j]? = s.cells[j]?
 | [], _, _, _, h, _ => by simp at h
 | x :: l, 0, j, s, h, hj => by
  simp at h
  subst h
  show (x.cells ++ flat l)[0 * 6 + j]? = x.cells[j]?
  rw [Nat.zero_mul, Nat.zero_add, List.getElem?_append_left (by simpa [Sec.cells] using hj)]
 | x :: l, i + 1, j, s, h, hj => by
  show (x.cells ++ flat l)[(i + 1) * 6 + j]? = s.cells[j]?
  rw [List.getElem?_append_right (by simp [Sec.cells]; omega)]
  have e : (i + 1) * 6 + j - x.cells.length = i * 6 + j := by simp [Sec.cells]; omega
  rw [e]
  exact flat_get l i j s (by simpa using h) hj
theorem isSecs_cells {w : World} {l : List Sec} {b cap : Nat} (hI : ∀ s ∈ l, s.I) (h1 : l.length ≤ cap) (h2 : cap ≤ maxLen)
  (hc : ∀ k v, (flat l)[k]? = some v → w.cell? ⟨b, k, none⟩ = some v) : IsSecs w (.slice (some ⟨b, 0, none⟩) l.length cap) l := by
 refine .inr ⟨⟨b, 0, none⟩, cap, rfl, h1, h2, fun i s hs => ⟨hI s (List.mem_of_getElem? hs), ?_⟩⟩
 have e : (⟨b, 0, none⟩ : Addr).add (i * 6) = ⟨b, i * 6, none⟩ := by
  unfold Addr.add
  split
  ·rename_i h; rw [h]
  ·simp
 have g : ∀ j v, j < 6 → s.cells[j]? = some v → w.cell? ⟨b, i * 6 + j, none⟩ = some v := fun j v hj hv => hc _ _ ((flat_get l i j s hs hj).trans hv)
 rw [e]
 exact ⟨g 0 _ (by omega) rfl, g 1 _ (by omega) rfl, g 2 _ (by omega) rfl, g 3 _ (by omega) rfl, g 4 _ (by omega) rfl, g 5 _ (by omega) rfl⟩
theorem isSecs_new {w : World} {t : TypeId} {l : List Sec} {cs : Array Value} {cap H : Nat} (hc : cs = (flat l).toArray) (hH : w.heap.size = H) (hI : ∀ s ∈ l, s.I) (h1 : l.length ≤ cap) (h2 : cap ≤ maxLen) :
  IsSecs (w.alloc (.cells cs t)) (.slice (some ⟨H, 0, none⟩) l.length cap) l := by
 refine isSecs_cells hI h1 h2 fun k v hv => ?_
 subst hH hc
 rw [World.cell?_alloc_new]
 simpa using hv
def IsU16 (w : World) (v : Value) (n : Nat) : Prop :=
 (v = .slice none 0 0 ∧ n = 0) ∨
 ∃ (a : Addr) (cap : Nat), v = .slice (some a) n cap ∧ n ≤ cap ∧ cap ≤ maxLen ∧ ∀ i, i < n → ∃ x : Int, 0 ≤ x ∧ x ≤ 65535 ∧ w.cell? (a.add i) = some (.int .u16 x)
theorem add0 (b k : Nat) : (⟨b, 0, none⟩ : Addr).add k = ⟨b, k, none⟩ := by
 unfold Addr.add
 split
 ·rename_i h; rw [h]
 ·simp
def hsumI (l : List Sec) (k : Nat) : Int := (l.take k).foldl (fun t s => t + s.h) 0
theorem hsumI_succ (l : List Sec) (k : Nat) (s : Sec) (h : l[k]? = some s) : hsumI l (k + 1) = hsumI l k + s.h := by
 unfold hsumI
 rw [List.take_add_one, h]
 simp
def inB (v a b : Int) : Bool := decide (a ≤ v) && decide (v ≤ b)
def secOk (s : Sec) : Bool := decide (1 ≤ s.h) && decide (s.h ≤ 60000) && decide (s.h.tmod 100 = 0) && inB s.a0 0 20000 && inB s.a1 1 20000 &&
 (if s.r then decide (s.b0 = 0) && decide (s.b1 = 0) else inB s.b0 0 20000 && inB s.b1 1 20000)
def okTo (l : List Sec) (k : Nat) : Bool := (l.take k).all secOk
def rightS (l : List Sec) : Bool := decide (1 ≤ l.length) && decide (l.length ≤ 4) && l.all secOk && decide (hsumI l l.length ≤ 60000)
theorem okTo_succ (l : List Sec) (k : Nat) (s : Sec) (h : l[k]? = some s) (hk : okTo l k = true) (hs : secOk s = true) : okTo l (k + 1) = true := by
 unfold okTo at *
 rw [List.take_add_one, h]
 simp at hk ⊢
 exact ⟨hk, hs⟩
theorem secOk_h (s : Sec) (h : secOk s = true) : 1 ≤ s.h ∧ s.h ≤ 60000 := by
 unfold secOk at h
 simp only [Bool.and_eq_true, decide_eq_true_eq] at h
 exact ⟨h.1.1.1.1.1, h.1.1.1.1.2⟩
theorem hsum_small (l : List Sec) (k : Nat) (h : okTo l k = true) : 0 ≤ hsumI l k ∧ hsumI l k ≤ 60000 * (k : Int) := by
 induction k with
 | zero => simp [hsumI]
 | succ k ih =>
  cases hg : l[k]? with
  | none =>
   have e1 : l.take (k + 1) = l.take k := by rw [List.take_add_one, hg]; simp
   unfold okTo hsumI at *
   rw [e1] at h ⊢
   have := ih h
   omega
  | some s =>
   have h' : okTo l k = true ∧ secOk s = true := by
    unfold okTo at *
    rw [List.take_add_one, hg] at h
    simpa using h
   have := ih h'.1
   have hs := secOk_h s h'.2
   rw [hsumI_succ l k s hg]
   omega
theorem rightS_short (l : List Sec) (h : l.length < 1) : rightS l = false := by
 unfold rightS
 rw [decide_eq_false (show ¬ 1 ≤ l.length by omega)]
 simp
theorem rightS_long (l : List Sec) (h : 4 < l.length) : rightS l = false := by
 unfold rightS
 rw [decide_eq_false (show ¬ l.length ≤ 4 by omega)]
 simp
theorem rightS_bad (l : List Sec) (k : Nat) (s : Sec) (h : l[k]? = some s) (hs : secOk s = false) : rightS l = false := by
 have : l.all secOk = false := by
  rw [List.all_eq_false]
  exact ⟨s, List.mem_of_getElem? h, by simp [hs]⟩
 unfold rightS
 rw [this]
 simp
theorem rightS_end (l : List Sec) (h1 : 1 ≤ l.length) (h2 : l.length ≤ 4) (h : okTo l l.length = true) : rightS l = decide (hsumI l l.length ≤ 60000) := by
 unfold rightS
 unfold okTo at h
 rw [List.take_length] at h
 rw [decide_eq_true h1, decide_eq_true h2, h]
 simp
theorem secOk_eq (s : Sec) (m : Int) (hm : s.h.tmod 100 = m) : secOk s = (!(decide (s.h < 1)) && !(decide (60000 < s.h)) && !(m != 0) && inB s.a0 0 20000 && inB s.a1 1 20000 &&
  (if s.r then !(s.b0 != 0) && !(s.b1 != 0) else inB s.b0 0 20000 && inB s.b1 1 20000)) := by
 unfold secOk
 rw [hm]
 have e1 : decide (1 ≤ s.h) = !(decide (s.h < 1)) := by
  by_cases h : 1 ≤ s.h
  ·rw [decide_eq_true h, decide_eq_false (by omega)]; rfl
  ·rw [decide_eq_false h, decide_eq_true (by omega)]; rfl
 have e2 : decide (s.h ≤ 60000) = !(decide (60000 < s.h)) := by
  by_cases h : s.h ≤ 60000
  ·rw [decide_eq_true h, decide_eq_false (by omega)]; rfl
  ·rw [decide_eq_false h, decide_eq_true (by omega)]; rfl
 have e3 : ∀ x : Int, decide (x = 0) = !(x != 0) := by
  intro x
  by_cases h : x = 0
  ·subst h; rfl
  ·rw [decide_eq_false h]; simp [h]
 rw [e1, e2, e3, e3, e3]
end Go.Proofs.YtglniapfnhedoaaGreatDoor
namespace Go.Proofs.YtglniapfnhedoaaGreatDoor
open Go.RowKit
def amOf (md : Region.Mode) (o : Oper) : Nat := o.after.toList.foldr (fun e m => if Region.binds md e then m ||| 2 ^ e.on else m) 0
def cfOf (md : Region.Mode) (ops : Array Oper) (oi : Oper) (i : Nat) : List Oper → Nat → Nat
 | [], _ => 0
 | oj :: l, j => (if j == i || (amOf md oj).testBit i || oi.apart ops oj then 0 else 2 ^ j) ||| cfOf md ops oi i l (j + 1)
def cfAll (md : Region.Mode) (ops : Array Oper) : List Oper → Nat → List Nat
 | [], _ => []
 | oi :: l, i => cfOf md ops oi i ops.toList 0 :: cfAll md ops l (i + 1)
def seqOk (n : Nat) (am cf : List Nat) : List (Nat × Nat) → Nat → Bool
 | [], done => (List.range n).all done.testBit
 | (i, k) :: l, done => decide (i < n) && !done.testBit i && (am.getD i 0 &&& done == am.getD i 0) &&
   (if k < 2 then (cf.getD i 0 &&& done == cf.getD i 0) else (List.range n).all (fun j => j == i || done.testBit j || !(am.getD j 0 &&& done == am.getD j 0))) && seqOk n am cf l (done ||| 2 ^ i)
def wpSeq (P : Program) (ops : Array Oper) (Q : Exit → Act → World → Prop) (S : World → Prop) : List (Nat × Nat) → Act → World → Prop
 | [], a, w => Q .normal a w
 | (i, k) :: l, a, w => ∃ o, ops[i]? = some o ∧
   (if k = 0 then ∃ v, (Region.wanted o (yielded ops a.tmps) = true ∧ ∀ w, S w → (execOp a.eval o).run P w = .ok (.value v) w) ∧ wpSeq P ops Q S l (a.put o.dst v) w
   else if k = 1 then Region.wanted o (yielded ops a.tmps) = false ∧ wpSeq P ops Q S l (a.put o.dst undef) w
   else wpOp P ops Q i (fun a' w' => S w' ∧ wpSeq P ops Q S l a' w') a w)
theorem testBit_pow (a b : Nat) : (2 ^ a).testBit b = decide (a = b) := Nat.testBit_two_pow
theorem amOf_bit (md : Region.Mode) (o : Oper) (k : Nat) : (amOf md o).testBit k = true ↔ ∃ e ∈ o.after, Region.binds md e = true ∧ e.on = k := by
 have h : ∀ l : List Edge, (l.foldr (fun e m => if Region.binds md e then m ||| 2 ^ e.on else m) 0).testBit k = true ↔ ∃ e ∈ l, Region.binds md e = true ∧ e.on = k := by
  intro l
  induction l with
  | nil => simp
  | cons e l ih =>
   rw [List.foldr_cons]
   by_cases hb : Region.binds md e = true
   ·rw [if_pos hb, Nat.testBit_or, Bool.or_eq_true, ih, testBit_pow]
    simp [hb]
    constructor
    ·rintro (h | h)
     ·exact Or.inr h
     ·exact Or.inl h
    ·rintro (h | h)
     ·exact Or.inr h
     ·exact Or.inl h
   ·rw [if_neg hb, ih]
    simp [hb]
 unfold amOf
 rw [h]
 simp
theorem sub_bits {a b : Nat} (h : (a &&& b == a) = true) (k : Nat) (hk : a.testBit k = true) : b.testBit k = true := by
 have e : a &&& b = a := by simpa using h
 rw [← e, Nat.testBit_and, Bool.and_eq_true] at hk
 exact hk.2
theorem bits_sub {a b : Nat} (h : ∀ k, a.testBit k = true → b.testBit k = true) : (a &&& b == a) = true := by
 rw [beq_iff_eq]
 refine Nat.eq_of_testBit_eq fun k => ?_
 rw [Nat.testBit_and]
 cases e : a.testBit k
 ·rfl
 ·rw [h k e]; rfl
theorem cfOf_bit (md : Region.Mode) (ops : Array Oper) (oi : Oper) (i j : Nat) (oj : Oper) (hji : j ≠ i) (hn : (amOf md oj).testBit i = false) (ha : oi.apart ops oj = false) :
  ∀ (l : List Oper) (s k : Nat), l[k]? = some oj → s + k = j → (cfOf md ops oi i l s).testBit j = true
 | [], _, _, h, _ => by simp at h
 | o :: l, s, 0, h, e => by
  simp at h e
  subst h e
  unfold cfOf
  rw [Nat.testBit_or, if_neg (by simp [hji, hn, ha]), testBit_pow]
  simp
 | o :: l, s, k + 1, h, e => by
  unfold cfOf
  rw [Nat.testBit_or, cfOf_bit md ops oi i j oj hji hn ha l (s + 1) k (by simpa using h) (by omega)]
  simp
theorem cfAll_get (md : Region.Mode) (ops : Array Oper) : ∀ (l : List Oper) (s k : Nat) (o : Oper), l[k]? = some o → (cfAll md ops l s)[k]? = some (cfOf md ops o (s + k) ops.toList 0)
 | [], _, _, _, h => by simp at h
 | o :: l, s, 0, _, h => by simp at h; subst h; simp [cfAll]
 | _ :: l, s, k + 1, o, h => by
  unfold cfAll
  rw [List.getElem?_cons_succ, cfAll_get md ops l (s + 1) k o (by simpa using h)]
  congr 2
  omega
structure Inv (n : Nat) (listed : Array Bool) (done : Nat) : Prop where
 size : listed.size = n
 get : ∀ j, j < n → listed[j]? = some (done.testBit j)
 far : ∀ j, n ≤ j → done.testBit j = false
theorem Inv.getF {n done j : Nat} {listed : Array Bool} (h : Inv n listed done) : listed.getD j false = done.testBit j := by
 by_cases c : j < n
 ·rw [Array.getD_eq_getD_getElem?, h.get j c]; rfl
 ·rw [Array.getD_eq_getD_getElem?, Array.getElem?_eq_none (by rw [h.size]; omega), h.far j (by omega)]; rfl
theorem Inv.getT {n done j : Nat} {listed : Array Bool} (h : Inv n listed done) (c : j < n) : listed.getD j true = done.testBit j := by
 rw [Array.getD_eq_getD_getElem?, h.get j c]; rfl
theorem Inv.set {n done i : Nat} {listed : Array Bool} (h : Inv n listed done) (hi : i < n) : Inv n (listed.setIfInBounds i true) (done ||| 2 ^ i) where
 size := by rw [Array.size_setIfInBounds, h.size]
 get j hj := by
  rw [Array.getElem?_setIfInBounds, Nat.testBit_or, testBit_pow]
  by_cases e : i = j
  ·subst e; simp [h.size, hj]
  ·rw [if_neg e, h.get j hj]; simp [e]
 far j hj := by
  rw [Nat.testBit_or, testBit_pow, h.far j hj]
  simp; omega
theorem Inv.start (n : Nat) : Inv n (Array.replicate n false) 0 where
 size := by simp
 get j hj := by simp [hj]
 far j _ := by simp
theorem wpAnyH_seq {P : Program} {md : Region.Mode} {ops : Array Oper} {Q : Exit → Act → World → Prop} {S : World → Prop} (am cf : List Nat)
  (ham : ops.toList.map (amOf md) = am) (hcf : cfAll md ops ops.toList 0 = cf) (hs : Region.noSelect ops = true)
  (hQ : ∀ c a w d v, Q (.panic c) (Act.put a d v) w → Q (.panic c) a w) :
  ∀ (l : List (Nat × Nat)) (done : Nat) (listed : Array Bool) (a : Act) (w : World), Inv ops.size listed done → seqOk ops.size am cf l done = true → S w →
   wpSeq P ops Q S l a w → wpAnyH P md ops Q S l.length listed a w := by
 have am_get : ∀ (i : Nat) (o : Oper), ops[i]? = some o → am.getD i 0 = amOf md o := by
  intro i o ho
  rw [← ham, List.getD_eq_getElem?_getD, List.getElem?_map, Array.getElem?_toList, ho]; rfl
 have cf_get : ∀ (i : Nat) (o : Oper), ops[i]? = some o → cf.getD i 0 = cfOf md ops o i ops.toList 0 := by
  intro i o ho
  rw [← hcf, List.getD_eq_getElem?_getD, cfAll_get md ops ops.toList 0 i o (by rw [Array.getElem?_toList]; exact ho), Nat.zero_add]; rfl
 have is_ready : ∀ (i done : Nat) (listed : Array Bool) (o : Oper), Inv ops.size listed done → ops[i]? = some o → done.testBit i = false → (am.getD i 0 &&& done == am.getD i 0) = true → i ∈ Region.ready md ops listed := by
  intro i done listed o hI ho hd ha
  have hin : i < ops.size := (Array.getElem?_eq_some_iff.1 ho).1
  refine mem_ready.2 ⟨by rw [hI.getT hin]; exact hd, o, ho, fun e he hb => ?_⟩
  rw [hI.getF]
  rw [am_get i o ho] at ha
  exact sub_bits ha e.on ((amOf_bit md o e.on).2 ⟨e, he, hb, rfl⟩)
 have ready_is : ∀ (i done : Nat) (listed : Array Bool), Inv ops.size listed done → i ∈ Region.ready md ops listed → i < ops.size ∧ done.testBit i = false ∧ (am.getD i 0 &&& done == am.getD i 0) = true := by
  intro i done listed hI hr
  obtain ⟨h1, o, ho, h2⟩ := mem_ready.1 hr
  have hin : i < ops.size := (Array.getElem?_eq_some_iff.1 ho).1
  refine ⟨hin, by rw [← hI.getT hin]; exact h1, ?_⟩
  rw [am_get i o ho]
  refine bits_sub fun k hk => ?_
  obtain ⟨e, he, hb, rfl⟩ := (amOf_bit md o k).1 hk
  rw [← hI.getF]
  exact h2 e he hb
 intro l
 induction l with
 | nil =>
  intro done listed a w hI hk _ h
  refine ⟨?_, h⟩
  refine List.eq_nil_iff_forall_not_mem.2 fun i hi => ?_
  obtain ⟨h1, h2, _⟩ := ready_is i done listed hI hi
  have := List.all_eq_true.1 hk i (List.mem_range.2 h1)
  rw [h2] at this
  cases this
 | cons x l ih =>
  obtain ⟨i, k⟩ := x
  intro done listed a w hI hk hS h
  unfold seqOk at hk
  simp only [Bool.and_eq_true, decide_eq_true_eq, Bool.not_eq_true'] at hk
  obtain ⟨⟨⟨⟨k1, k2⟩, k3⟩, k4⟩, k5⟩ := hk
  obtain ⟨o, ho, h⟩ := h
  have hr := is_ready i done listed o hI ho k2 k3
  have hI' := hI.set k1
  have hfree : k < 2 → ∀ j oj, ops[j]? = some oj → j ≠ i → listed.getD j true = false → (∀ e ∈ oj.after, Region.binds md e = true → e.on ≠ i) → o.apart ops oj = true := by
   intro hk2 j oj hj hji hun hno
   rw [if_pos hk2, cf_get i o ho] at k4
   cases c : o.apart ops oj
   ·exfalso
    have hjn : j < ops.size := (Array.getElem?_eq_some_iff.1 hj).1
    have hb : (amOf md oj).testBit i = false := by
     cases e : (amOf md oj).testBit i
     ·rfl
     ·obtain ⟨x, hx, hxb, hxi⟩ := (amOf_bit md oj i).1 e
      exact absurd hxi (hno x hx hxb)
    have := sub_bits k4 j (cfOf_bit md ops o i j oj hji hb c ops.toList 0 j (by rw [Array.getElem?_toList]; exact hj) (Nat.zero_add _))
    rw [hI.getT hjn, this] at hun
    cases hun
   ·rfl
  rw [List.length_cons]
  by_cases c0 : k = 0
  ·rw [if_pos c0] at h
   obtain ⟨v, ⟨hw, hv⟩, h⟩ := h
   exact wpAnyH_first ho (Region.noSelect_spec hs) (fun c a w h => hQ c a w _ _ h) l.length listed a w (hfree (by omega)) hr (Or.inl ⟨hw, hv⟩) hS (ih _ _ _ _ hI' k5 hS h)
  ·rw [if_neg c0] at h
   by_cases c1 : k = 1
   ·rw [if_pos c1] at h
    exact wpAnyH_first ho (Region.noSelect_spec hs) (fun c a w h => hQ c a w _ _ h) l.length listed a w (hfree (by omega)) hr (Or.inr ⟨h.1, rfl⟩) hS (ih _ _ _ _ hI' k5 hS h.2)
   ·rw [if_neg c1] at h
    refine ⟨fun e => (by rw [e] at hr; cases hr), fun j hj => ?_⟩
    have hji : j = i := by
     obtain ⟨q1, q2, q3⟩ := ready_is j done listed hI hj
     rw [if_neg (by omega)] at k4
     have := List.all_eq_true.1 k4 j (List.mem_range.2 q1)
     rw [q2, q3] at this
     simpa using this
    subst hji
    exact wpOp_mono (fun a' w' h' => ⟨h'.1, ih _ _ _ _ hI' k5 h'.1 h'.2⟩) h
theorem wp_region_seq {P : Program} {ops : Array Oper} {Q : Exit → Act → World → Prop} {S : World → Prop} {id : Nat} {a : Act} {w : World} (l : List (Nat × Nat)) (am cf : List Nat) (hm : P.follows .mixedOrders = true)
  (hk : (Region.noSelect ops && decide (l.length = ops.size) && decide (ops.toList.map (amOf .any) = am) && decide (cfAll .any ops ops.toList 0 = cf) && seqOk ops.size am cf l 0) = true)
  (hQ : ∀ c a w d v, Q (.panic c) (Act.put a d v) w → Q (.panic c) a w) (hS : S w.drew)
  (h : S w.drew → wpSeq P ops Q S l a w.drew) : (Code.region id ops true).wp P Q a w := by
 simp only [Bool.and_eq_true, decide_eq_true_eq] at hk
 obtain ⟨⟨⟨⟨h1, h2⟩, h3⟩, h4⟩, h5⟩ := hk
 refine wp_region_held_drew hm hS fun hS => ?_
 rw [← h2]
 have := wpAnyH_seq (P := P) (md := .any) (S := S) am cf h3 h4 h1 hQ l 0 (Array.replicate ops.size false) a w.drew (Inv.start _) h5 hS (h hS)
 rw [h2] at this ⊢
 exact this
theorem wpSeq_take {P : Program} {ops : Array Oper} {Q : Exit → Act → World → Prop} {S : World → Prop} {l : List (Nat × Nat)} {t : List Value} {df : List _} {w : World} {i d : Nat} {o : Oper} {v : Value}
  (ho : ops.toList[i]? = some o) (hd : o.dst = some d) (hw : Region.wanted o (yielded ops t.toArray) = true)
  (hy : ∀ w, S w → (execOp (Act.eval { tmps := t.toArray, defers := df }) o).run P w = .ok (.value v) w)
  (h : wpSeq P ops Q S l { tmps := (t.set d v).toArray, defers := df } w) : wpSeq P ops Q S ((i, 0) :: l) { tmps := t.toArray, defers := df } w := by
 refine ⟨o, by rw [← Array.getElem?_toList]; exact ho, ?_⟩
 rw [if_pos rfl]
 refine ⟨v, ⟨hw, hy⟩, ?_⟩
 have e : Act.put { tmps := t.toArray, defers := df } o.dst v = { tmps := (t.set d v).toArray, defers := df } := by
  rw [hd]; simp [Act.put]
 rw [e]
 exact h
theorem wpSeq_call {P : Program} {ops : Array Oper} {Q : Exit → Act → World → Prop} {S : World → Prop} {l : List (Nat × Nat)} {a : Act} {w : World} {i : Nat} {o : Oper}
  (ho : ops.toList[i]? = some o) (hw : Region.wanted o (yielded ops a.tmps) = true)
  (h : ∀ K' : Act → World → Prop, Shut (∀ a w, S w → (S w → wpSeq P ops Q S l a w) → K' a w) → Oper.wp P o a w K' Q) : wpSeq P ops Q S ((i, 2) :: l) a w := by
 rw [Array.getElem?_toList] at ho
 refine ⟨o, ho, ?_⟩
 rw [if_neg (by decide), if_neg (by decide)]
 refine wpOp_step ho fun K' hK => ?_
 rw [if_pos hw]
 exact h K' fun a w hS h => hK a w ⟨hS, h hS⟩
theorem wpSeq_done {P : Program} {ops : Array Oper} {Q : Exit → Act → World → Prop} {S : World → Prop} {a : Act} {w : World} (h : Q .normal a w) : wpSeq P ops Q S [] a w := h
end Go.Proofs.YtglniapfnhedoaaGreatDoor
