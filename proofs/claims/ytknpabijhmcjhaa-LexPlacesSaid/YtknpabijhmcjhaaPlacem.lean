/-
  Where words stand, of bytes among which there are no comments. No program is named here.
-/
import Derived.Test.YtknpabijhmcjhaaLexm
namespace Go.Proofs.Ytknpabijhmcjhaa
open Go.RowKit

/-- Words one behind the other, each where it is said, from place lo on. -/
def chain (bs : List UInt8) : Nat → List Wd → Prop
  | _, [] => True
  | lo, x :: ws => lo ≤ x.1 ∧ x.2 ≠ [] ∧ x.1 + x.2.length ≤ bs.length ∧ cut bs x.1 (x.1 + x.2.length) = x.2 ∧ chain bs (x.1 + x.2.length) ws
def sumL (ws : List Wd) : Nat := (ws.map fun x => x.2.length).sum
def npart (l : List UInt8) : Nat := (l.filter fun c => partN c.toNat).length
def plainN (n : Nat) : Prop := partN n = true ∨ n = 32 ∨ n = 9 ∨ n = 10
/-- The words of bytes, behind bytes of a word. -/
def wordsOf : List UInt8 → Nat → List UInt8 → List Wd
  | [], p, w => flushW [] p w
  | c :: cs, p, w => if partN c.toNat then wordsOf cs (p + 1) (w ++ [c]) else flushW [] p w ++ wordsOf cs (p + 1) []
theorem flushW_flat (line : List Wd) (p : Nat) (w : List UInt8) : flushW line p w = line ++ flushW [] p w := by
  unfold flushW
  split <;> simp
theorem flushL_flat (out : List (List Wd)) (line : List Wd) : (flushL out line).flatten = out.flatten ++ line := by
  unfold flushL
  split
  · rename_i h; rw [h]; simp
  · simp
theorem not_part {n : Nat} (h : n = 32 ∨ n = 9 ∨ n = 10) : partN n = false := by
  rcases h with rfl | rfl | rfl <;> decide
theorem scan_plain : ∀ (cs : List UInt8) (p : Nat) (out : List (List Wd)) (line : List Wd) (w : List UInt8), (∀ c ∈ cs, plainN c.toNat) →
    ∃ LL, scan cs p out line w false = (LL, 0, 0) ∧ LL.flatten = out.flatten ++ line ++ wordsOf cs p w
  | [], p, out, line, w, _ => ⟨_, rfl, by rw [flushL_flat, flushW_flat, List.append_assoc]; rfl⟩
  | c :: cs, p, out, line, w, h => by
    have hc := h c List.mem_cons_self
    have hr : ∀ c ∈ cs, plainN c.toNat := fun x hx => h x (List.mem_cons_of_mem _ hx)
    unfold scan wordsOf
    by_cases h10 : c.toNat = 10
    · rw [if_pos h10, if_neg (by rw [not_part (.inr (.inr h10))]; decide)]
      obtain ⟨LL, e, f⟩ := scan_plain cs (p + 1) (flushL out (flushW line p w)) [] [] hr
      exact ⟨LL, e, by rw [f, flushL_flat, flushW_flat]; simp⟩
    · rw [if_neg h10, if_neg (by decide)]
      cases hp : partN c.toNat
      · have hb : c.toNat = 32 ∨ c.toNat = 9 := by
          rcases hc with hc | hc | hc | hc
          · rw [hp] at hc; cases hc
          · exact .inl hc
          · exact .inr hc
          · exact absurd hc h10
        rw [if_neg (by decide), if_neg (by omega), if_pos hb, if_neg (by decide)]
        obtain ⟨LL, e, f⟩ := scan_plain cs (p + 1) out (flushW line p w) [] hr
        exact ⟨LL, e, by rw [f, flushW_flat]; simp⟩
      · rw [if_pos rfl, if_pos rfl]
        exact scan_plain cs (p + 1) out line (w ++ [c]) hr
theorem chain_words (bs : List UInt8) : ∀ (cs : List UInt8) (p : Nat) (w : List UInt8) (lo : Nat), bs.drop p = cs → p ≤ bs.length → w.length ≤ p → cut bs (p - w.length) p = w → lo ≤ p - w.length → chain bs lo (wordsOf cs p w)
  | [], p, w, lo, hd, hp, hw, hc, hlo => by
    unfold wordsOf flushW
    by_cases e : w = []
    · rw [if_pos e]; exact trivial
    · rw [if_neg e]
      refine ⟨hlo, e, by simp; omega, ?_, trivial⟩
      show cut bs (p - w.length) (p - w.length + w.length) = w
      rw [Nat.sub_add_cancel hw, hc]
  | c :: cs, p, w, lo, hd, hp, hw, hc, hlo => by
    have hg : bs[p]? = some c := by
      have : (bs.drop p)[0]? = some c := by rw [hd]; rfl
      rwa [List.getElem?_drop, Nat.add_zero] at this
    have hlt : p < bs.length := (List.getElem?_eq_some_iff.1 hg).1
    have hd' : bs.drop (p + 1) = cs := by
      have := drop_at hg
      rw [hd] at this
      exact (List.cons.inj this).2.symm
    unfold wordsOf
    cases hpt : partN c.toNat
    · rw [if_neg (by decide)]
      have ih := fun lo h => chain_words bs cs (p + 1) [] lo hd' hlt (Nat.zero_le _) (cut_none bs (p + 1)) h
      unfold flushW
      by_cases e : w = []
      · rw [if_pos e]; exact ih lo (by simp; omega)
      · rw [if_neg e]
        refine ⟨hlo, e, by simp; omega, ?_, ?_⟩
        · show cut bs (p - w.length) (p - w.length + w.length) = w
          rw [Nat.sub_add_cancel hw, hc]
        · show chain bs (p - w.length + w.length) (wordsOf cs (p + 1) [])
          exact ih _ (by simp; omega)
    · rw [if_pos rfl]
      have hl : (w ++ [c]).length = w.length + 1 := by simp
      refine chain_words bs cs (p + 1) (w ++ [c]) lo hd' hlt (by rw [hl]; omega) ?_ (by rw [hl]; omega)
      rw [hl, show p + 1 - (w.length + 1) = p - w.length by omega, cut_succ (by omega) hg, hc]
theorem sumL_append (a b : List Wd) : sumL (a ++ b) = sumL a + sumL b := by simp [sumL]
theorem sum_words : ∀ (cs : List UInt8) (p : Nat) (w : List UInt8), sumL (wordsOf cs p w) = w.length + npart cs
  | [], p, w => by
    unfold wordsOf flushW
    by_cases e : w = []
    · rw [if_pos e, e]; rfl
    · rw [if_neg e]; simp [sumL, npart]
  | c :: cs, p, w => by
    unfold wordsOf
    cases hpt : partN c.toNat
    · rw [if_neg (by decide), sumL_append, sum_words cs (p + 1) []]
      have e2 : npart (c :: cs) = npart cs := by unfold npart; rw [List.filter_cons, hpt]; simp
      rw [e2]
      unfold flushW
      by_cases e : w = []
      · rw [if_pos e, e]; simp [sumL]
      · rw [if_neg e]; simp [sumL]
    · rw [if_pos rfl, sum_words cs (p + 1) (w ++ [c])]
      have e2 : npart (c :: cs) = npart cs + 1 := by unfold npart; rw [List.filter_cons, hpt]; simp
      rw [e2]
      simp
      omega
theorem plain_lines {bs : List UInt8} (hl : bs.length ≤ 65536) (h : ∀ c ∈ bs, plainN c.toNat) : ∃ LL, linesB bs = (LL, 0, 0) ∧ chain bs 0 LL.flatten ∧ sumL LL.flatten = npart bs := by
  obtain ⟨LL, e, f⟩ := scan_plain bs 0 [] [] [] h
  have f' : LL.flatten = wordsOf bs 0 [] := by simpa using f
  refine ⟨LL, ?_, ?_, ?_⟩
  · unfold linesB
    rw [if_neg (by omega), e]
  · rw [f']
    exact chain_words bs bs 0 [] 0 rfl (Nat.zero_le _) (Nat.le_refl _) (cut_none bs 0) (Nat.le_refl _)
  · rw [f', sum_words]
    simp
theorem npart_take {bs : List UInt8} {i : Nat} {c : UInt8} (h : bs[i]? = some c) : npart (bs.take (i + 1)) = npart (bs.take i) + if partN c.toNat then 1 else 0 := by
  unfold npart
  rw [List.take_add_one, h, List.filter_append, List.length_append]
  cases hp : partN c.toNat <;> simp [hp]
theorem plain_part {n : Nat} (h : plainN n) : partN n = true ↔ n ≠ 32 ∧ n ≠ 9 ∧ n ≠ 10 := by
  constructor
  · intro hp
    have := part_cases hp
    omega
  · intro ⟨h1, h2, h3⟩
    rcases h with h | h | h | h
    · exact h
    · exact absurd h h1
    · exact absurd h h2
    · exact absurd h h3
/-- A line's words, then what stands behind. -/
theorem rest_row {LL : List (List Wd)} {i : Nat} {L : List Wd} (h : LL[i]? = some L) : (LL.drop i).flatten = L ++ (LL.drop (i + 1)).flatten := by
  obtain ⟨hi, rfl⟩ := List.getElem?_eq_some_iff.1 h
  rw [List.drop_eq_getElem_cons hi]
  rfl
theorem rest_word {L : List Wd} {k : Nat} {x : Wd} (h : L[k]? = some x) : L.drop k = x :: L.drop (k + 1) := by
  obtain ⟨hi, rfl⟩ := List.getElem?_eq_some_iff.1 h
  rw [List.drop_eq_getElem_cons hi]
theorem sumL_cons (x : Wd) (ws : List Wd) : sumL (x :: ws) = x.2.length + sumL ws := by simp [sumL]
end Go.Proofs.Ytknpabijhmcjhaa
