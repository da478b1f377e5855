/-
  Words of bytes: which lines of words any bytes are, or the first byte that is none. No program is named here.
-/
import Derived.Test.YtknpabijhmcjhaaNamem
namespace Go.Proofs.Ytknpabijhmcjhaa
open Go.RowKit

/-- A word: where, and its bytes. -/
abbrev Wd := Nat × List UInt8
def capN (n : Nat) : Bool := decide (65 ≤ n) && decide (n ≤ 90)
def partN (n : Nat) : Bool := lowN n || capN n || digN n || decide (n = 46)
def kindN (n : Nat) : Nat := if lowN n then 1 else if capN n then 2 else if digN n then 3 else if n = 46 then 4 else if n = 32 ∨ n = 9 then 5 else if n = 10 then 6 else if n = 35 then 7 else 0
/-- A word that has ended ahead of place p. -/
def flushW (line : List Wd) (p : Nat) (w : List UInt8) : List Wd := if w = [] then line else line ++ [(p - w.length, w)]
def flushL (out : List (List Wd)) (line : List Wd) : List (List Wd) := if line = [] then out else out ++ [line]
/-- Bytes from place p on, behind lines, words of a line, bytes of a word, or in a comment. -/
def scan : List UInt8 → Nat → List (List Wd) → List Wd → List UInt8 → Bool → List (List Wd) × Nat × Nat
  | [], p, out, line, w, _ => (flushL out (flushW line p w), 0, 0)
  | c :: cs, p, out, line, w, note =>
    if c.toNat = 10 then scan cs (p + 1) (flushL out (flushW line p w)) [] [] false
    else if note then scan cs (p + 1) out line [] true
    else if partN c.toNat then scan cs (p + 1) out line (w ++ [c]) false
    else if c.toNat = 35 then scan cs (p + 1) out (flushW line p w) [] true
    else if c.toNat = 32 ∨ c.toNat = 9 then scan cs (p + 1) out (flushW line p w) [] false
    else ([], p, 24)
def linesB (bs : List UInt8) : List (List Wd) × Nat × Nat := if 65536 < bs.length then ([], 65536, 27) else scan bs 0 [] [] [] false

theorem drop_at {bs : List UInt8} {i : Nat} {c : UInt8} (h : bs[i]? = some c) : bs.drop i = c :: bs.drop (i + 1) := by
  obtain ⟨hi, rfl⟩ := List.getElem?_eq_some_iff.1 h
  rw [List.drop_eq_getElem_cons hi]
theorem drop_end {bs : List UInt8} {i : Nat} (h : bs.length ≤ i) : bs.drop i = [] := List.drop_eq_nil_of_le h
section
variable {bs : List UInt8} {p : Nat} {c : UInt8} {out : List (List Wd)} {line : List Wd} {w : List UInt8} {note : Bool}
theorem scan_end (h : bs.length ≤ p) {q : Nat} : scan (bs.drop p) q out line w note = (flushL out (flushW line q w), 0, 0) := by
  rw [drop_end h]; rfl
theorem scan_feed (h : bs[p]? = some c) (hc : c.toNat = 10) : scan (bs.drop p) p out line w note = scan (bs.drop (p + 1)) (p + 1) (flushL out (flushW line p w)) [] [] false := by
  rw [drop_at h, scan, if_pos hc]
theorem scan_note (h : bs[p]? = some c) (hc : c.toNat ≠ 10) : scan (bs.drop p) p out line [] true = scan (bs.drop (p + 1)) (p + 1) out line [] true := by
  rw [drop_at h, scan, if_neg hc, if_pos rfl]
theorem part_cases {n : Nat} (h : partN n = true) : n ≠ 10 ∧ n ≠ 35 ∧ n ≠ 32 ∧ n ≠ 9 := by
  refine ⟨?_, ?_, ?_, ?_⟩ <;> · rintro rfl; exact absurd h (by decide)
theorem scan_part (h : bs[p]? = some c) (hc : partN c.toNat = true) : scan (bs.drop p) p out line w false = scan (bs.drop (p + 1)) (p + 1) out line (w ++ [c]) false := by
  rw [drop_at h, scan, if_neg (part_cases hc).1, if_neg (by decide), if_pos hc]
theorem scan_hash (h : bs[p]? = some c) (hc : c.toNat = 35) : scan (bs.drop p) p out line w false = scan (bs.drop (p + 1)) (p + 1) out (flushW line p w) [] true := by
  rw [drop_at h, scan, if_neg (by omega), if_neg (by decide), if_neg (by rw [hc]; decide), if_pos hc]
theorem scan_gap (h : bs[p]? = some c) (hc : c.toNat = 32 ∨ c.toNat = 9) : scan (bs.drop p) p out line w false = scan (bs.drop (p + 1)) (p + 1) out (flushW line p w) [] false := by
  rw [drop_at h, scan, if_neg (by omega), if_neg (by decide), if_neg (by rcases hc with e | e <;> rw [e] <;> decide), if_neg (by omega), if_pos hc]
theorem scan_bad (h : bs[p]? = some c) (h1 : c.toNat ≠ 10) (h2 : partN c.toNat = false) (h3 : c.toNat ≠ 35) (h4 : ¬ (c.toNat = 32 ∨ c.toNat = 9)) : scan (bs.drop p) p out line w false = ([], p, 24) := by
  rw [drop_at h, scan, if_neg h1, if_neg (by decide), if_neg (by rw [h2]; decide), if_neg h3, if_neg h4]
/-- A word ends where no byte of one comes. -/
theorem scan_word (h : bs.length ≤ p ∨ ∃ c, bs[p]? = some c ∧ partN c.toNat = false) (hw : w ≠ []) : scan (bs.drop p) p out line w false = scan (bs.drop p) p out (line ++ [(p - w.length, w)]) [] false := by
  have e : flushW line p w = line ++ [(p - w.length, w)] := if_neg hw
  have e2 : ∀ l : List Wd, flushW l p [] = l := fun l => if_pos rfl
  rcases h with h | ⟨c, h, hc⟩
  · rw [scan_end h, scan_end h, e, e2]
  · rw [drop_at h]
    unfold scan
    rw [e, e2, hc]
    simp
/-- Behind a comment's end nothing is left of it. -/
theorem scan_noted (h : bs.length ≤ p ∨ ∃ c, bs[p]? = some c ∧ c.toNat = 10) : scan (bs.drop p) p out line [] true = scan (bs.drop p) p out line [] false := by
  rcases h with h | ⟨c, h, hc⟩
  · rw [scan_end h, scan_end h]
  · rw [scan_feed h hc, scan_feed h hc]
/-- A comment, from place p up to place q. -/
theorem scan_skip {q : Nat} (hpq : p ≤ q) (hq : q ≤ bs.length) (h : ∀ i, p ≤ i → i < q → ∀ c, bs[i]? = some c → c.toNat ≠ 10) : scan (bs.drop p) p out line [] true = scan (bs.drop q) q out line [] true := by
  obtain ⟨d, rfl⟩ : ∃ d, q = p + d := ⟨q - p, by omega⟩
  clear hpq
  induction d with
  | zero => rfl
  | succ d ih =>
    rw [ih (by omega) (fun i h1 h2 => h i h1 (by omega))]
    have hg : bs[p + d]? = some bs[p + d] := List.getElem?_eq_getElem (by omega)
    rw [scan_note hg (h _ (by omega) (by omega) _ hg)]
    rfl
end
/-- The bytes from place i up to place k. -/
def cut (bs : List UInt8) (i k : Nat) : List UInt8 := (bs.drop i).take (k - i)
theorem cut_len {bs : List UInt8} {i k : Nat} (h : i ≤ k) (hk : k ≤ bs.length) : (cut bs i k).length = k - i := by
  unfold cut; rw [List.length_take, List.length_drop]; omega
theorem cut_none (bs : List UInt8) (i : Nat) : cut bs i i = [] := by unfold cut; simp
theorem cut_succ {bs : List UInt8} {i k : Nat} {c : UInt8} (h : i ≤ k) (hg : bs[k]? = some c) : cut bs i (k + 1) = cut bs i k ++ [c] := by
  unfold cut
  rw [show k + 1 - i = (k - i) + 1 by omega, List.take_add_one, List.getElem?_drop, show i + (k - i) = k by omega, hg]
  rfl
theorem scan_run {bs : List UInt8} {i k : Nat} {out : List (List Wd)} {line : List Wd} (hik : i ≤ k) (hk : k ≤ bs.length) (h : ∀ j, i ≤ j → j < k → ∀ c, bs[j]? = some c → partN c.toNat = true) :
    scan (bs.drop i) i out line [] false = scan (bs.drop k) k out line (cut bs i k) false := by
  obtain ⟨d, rfl⟩ : ∃ d, k = i + d := ⟨k - i, by omega⟩
  clear hik
  induction d with
  | zero => rw [Nat.add_zero, cut_none]
  | succ d ih =>
    have hg : bs[i + d]? = some bs[i + d] := List.getElem?_eq_getElem (by omega)
    rw [ih (by omega) (fun j h1 h2 => h j h1 (by omega)), scan_part hg (h _ (by omega) (by omega) _ hg), ← Nat.add_assoc, cut_succ (i := i) (k := i + d) (by omega) hg]
/-- A word, from place i up to place k. -/
theorem scan_whole {bs : List UInt8} {i k : Nat} {out : List (List Wd)} {line : List Wd} (hik : i < k) (hk : k ≤ bs.length) (h : ∀ j, i ≤ j → j < k → ∀ c, bs[j]? = some c → partN c.toNat = true)
    (he : bs.length ≤ k ∨ ∃ c, bs[k]? = some c ∧ partN c.toNat = false) :
    scan (bs.drop i) i out line [] false = scan (bs.drop k) k out (line ++ [(i, cut bs i k)]) [] false := by
  have hl := cut_len (by omega : i ≤ k) hk
  rw [scan_run (by omega) hk h, scan_word he (by intro e; rw [e] at hl; simp at hl; omega), hl, show k - (k - i) = i by omega]
theorem flushW_none (line : List Wd) (p : Nat) : flushW line p [] = line := if_pos rfl
/-- Of bytes: what a line is, is behind it. -/
theorem flushL_some {out : List (List Wd)} {line : List Wd} (h : line ≠ []) : flushL out line = out ++ [line] := if_neg h
theorem flushL_none (out : List (List Wd)) : flushL out [] = out := if_pos rfl
theorem kind_part (n : Nat) : partN n = true ↔ 1 ≤ kindN n ∧ kindN n ≤ 4 := by
  unfold partN kindN
  by_cases h1 : lowN n = true
  · simp [h1]
  by_cases h2 : capN n = true
  · simp [h1, h2]
  by_cases h3 : digN n = true
  · simp [h1, h2, h3]
  by_cases h4 : n = 46
  · subst h4; decide
  simp only [h1, h2, h3, h4, if_false, Bool.or_false, decide_false, Bool.false_eq_true, false_iff]
  by_cases h5 : n = 32 ∨ n = 9
  · simp [h5]
  by_cases h6 : n = 10
  · simp [h6]
  by_cases h7 : n = 35
  · simp [h7]
  simp [h5, h6, h7]
theorem kind_le (n : Nat) : kindN n ≤ 7 := by
  unfold kindN
  repeat' split
  all_goals omega
theorem kind_five {n : Nat} (h : kindN n = 5) : (n = 32 ∨ n = 9) ∧ partN n = false := by
  have hp : partN n = false := by
    cases e : partN n
    · rfl
    · have := (kind_part n).1 e; omega
  refine ⟨?_, hp⟩
  unfold kindN at h
  split at h; · omega
  split at h; · omega
  split at h; · omega
  split at h; · omega
  split at h
  · assumption
  split at h; · omega
  split at h <;> omega
theorem kind_six {n : Nat} (h : kindN n = 6) : n = 10 := by
  unfold kindN at h
  split at h; · omega
  split at h; · omega
  split at h; · omega
  split at h; · omega
  split at h; · omega
  split at h
  · assumption
  split at h <;> omega
theorem kind_seven {n : Nat} (h : kindN n = 7) : n = 35 := by
  unfold kindN at h
  split at h; · omega
  split at h; · omega
  split at h; · omega
  split at h; · omega
  split at h; · omega
  split at h; · omega
  split at h
  · assumption
  · omega
theorem kind_zero {n : Nat} (h : kindN n = 0) : n ≠ 10 ∧ partN n = false ∧ n ≠ 35 ∧ ¬ (n = 32 ∨ n = 9) := by
  have hp : partN n = false := by
    cases e : partN n
    · rfl
    · have := (kind_part n).1 e; omega
  refine ⟨?_, hp, ?_, ?_⟩
  · rintro rfl; exact absurd h (by decide)
  · rintro rfl; exact absurd h (by decide)
  · rintro (rfl | rfl) <;> exact absurd h (by decide)
end Go.Proofs.Ytknpabijhmcjhaa
