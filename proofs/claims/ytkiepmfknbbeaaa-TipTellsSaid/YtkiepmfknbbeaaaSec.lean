/-
  Slices of sections: how they lie in memory. No program is named here.
-/
import Derived.Test.YtkiepmfknbbeaaaQm
import Derived.Test.YtkiepmfknbbeaaaW
import Derived.Lib.Hide
namespace Go.Proofs.Ytkiepmfknbbeaaa
open Go.RowKit

/-- A section's numbers. -/
structure Sec where
  r : Bool
  h : Int
  a0 : Int
  b0 : Int
  a1 : Int
  b1 : Int
  deriving DecidableEq, Inhabited
/-- Each fits 64 bits. -/
def Sec.I (s : Sec) : Prop := I64 s.h ∧ I64 s.a0 ∧ I64 s.b0 ∧ I64 s.a1 ∧ I64 s.b1
def Sec.val (s : Sec) : Value := .agg #[.bool s.r, .int .i64 s.h, .int .i64 s.a0, .int .i64 s.b0, .int .i64 s.a1, .int .i64 s.b1]
def Sec.cells (s : Sec) : List Value := [.bool s.r, .int .i64 s.h, .int .i64 s.a0, .int .i64 s.b0, .int .i64 s.a1, .int .i64 s.b1]

/-- It lies there. -/
structure SecAt (w : World) (p : Addr) (s : Sec) : Prop where
  r : w.cell? p = some (.bool s.r)
  h : w.cell? ⟨p.block, p.off + 1, none⟩ = some (.int .i64 s.h)
  a0 : w.cell? ⟨p.block, p.off + 2, none⟩ = some (.int .i64 s.a0)
  b0 : w.cell? ⟨p.block, p.off + 3, none⟩ = some (.int .i64 s.b0)
  a1 : w.cell? ⟨p.block, p.off + 4, none⟩ = some (.int .i64 s.a1)
  b1 : w.cell? ⟨p.block, p.off + 5, none⟩ = some (.int .i64 s.b1)
theorem SecAt.keep {w w' : World} {p : Addr} {s : Sec} (h : SecAt w p s) (q : Q w w') : SecAt w' p s :=
  ⟨q.keep h.r, q.keep h.h, q.keep h.a0, q.keep h.b0, q.keep h.a1, q.keep h.b1⟩

/-- The value is a slice of these sections. -/
def IsSecs (w : World) (v : Value) (l : List Sec) : Prop :=
  (v = .slice none 0 0 ∧ l = []) ∨
  ∃ (a : Addr) (cap : Nat), v = .slice (some a) l.length cap ∧ l.length ≤ cap ∧ cap ≤ maxLen ∧ ∀ i s, l[i]? = some s → s.I ∧ SecAt w (a.add (i * 6)) s
theorem SecAt.keepB {w w' : World} {p : Addr} {s : Sec} (h : SecAt w p s) (q : B w w') : SecAt w' p s :=
  ⟨q.keep h.r, q.keep h.h, q.keep h.a0, q.keep h.b0, q.keep h.a1, q.keep h.b1⟩
theorem IsSecs.keepB {w w' : World} {v : Value} {l : List Sec} (h : IsSecs w v l) (q : B w w') : IsSecs w' v l := by
  rcases h with h | ⟨a, cap, h1, h2, h3, h4⟩
  · exact .inl h
  · exact .inr ⟨a, cap, h1, h2, h3, fun i s hs => ⟨(h4 i s hs).1, (h4 i s hs).2.keepB q⟩⟩
theorem IsSecs.keep {w w' : World} {v : Value} {l : List Sec} (h : IsSecs w v l) (q : Q w w') : IsSecs w' v l := by
  rcases h with h | ⟨a, cap, h1, h2, h3, h4⟩
  · exact .inl h
  · exact .inr ⟨a, cap, h1, h2, h3, fun i s hs => ⟨(h4 i s hs).1, (h4 i s hs).2.keep q⟩⟩

/-- All cells of sections, one behind the other. -/
def flat (l : List Sec) : List Value := l.flatMap Sec.cells
theorem flat_get : ∀ (l : List Sec) (i j : Nat) (s : Sec), l[i]? = some s → j < 6 → (flat l)[i * 6 + j]? = s.cells[j]?
  | [], _, _, _, h, _ => by simp at h
  | x :: l, 0, j, s, h, hj => by
    simp at h
    subst h
    show (x.cells ++ flat l)[0 * 6 + j]? = x.cells[j]?
    rw [Nat.zero_mul, Nat.zero_add, List.getElem?_append_left (by simpa [Sec.cells] using hj)]
  | x :: l, i + 1, j, s, h, hj => by
    show (x.cells ++ flat l)[(i + 1) * 6 + j]? = s.cells[j]?
    rw [List.getElem?_append_right (by simp [Sec.cells]; omega)]
    have e : (i + 1) * 6 + j - x.cells.length = i * 6 + j := by simp [Sec.cells]; omega
    rw [e]
    exact flat_get l i j s (by simpa using h) hj
/-- Sections whose cells are a block's first ones. -/
theorem isSecs_cells {w : World} {l : List Sec} {b cap : Nat} (hI : ∀ s ∈ l, s.I) (h1 : l.length ≤ cap) (h2 : cap ≤ maxLen)
    (hc : ∀ k v, (flat l)[k]? = some v → w.cell? ⟨b, k, none⟩ = some v) : IsSecs w (.slice (some ⟨b, 0, none⟩) l.length cap) l := by
  refine .inr ⟨⟨b, 0, none⟩, cap, rfl, h1, h2, fun i s hs => ⟨hI s (List.mem_of_getElem? hs), ?_⟩⟩
  have e : (⟨b, 0, none⟩ : Addr).add (i * 6) = ⟨b, i * 6, none⟩ := by
    unfold Addr.add
    split
    · rename_i h; rw [h]
    · simp
  have g : ∀ j v, j < 6 → s.cells[j]? = some v → w.cell? ⟨b, i * 6 + j, none⟩ = some v := fun j v hj hv => hc _ _ ((flat_get l i j s hs hj).trans hv)
  rw [e]
  exact ⟨g 0 _ (by omega) rfl, g 1 _ (by omega) rfl, g 2 _ (by omega) rfl, g 3 _ (by omega) rfl, g 4 _ (by omega) rfl, g 5 _ (by omega) rfl⟩
theorem isSecs_new {w : World} {t : TypeId} {l : List Sec} {cs : Array Value} {cap H : Nat} (hc : cs = (flat l).toArray) (hH : w.heap.size = H) (hI : ∀ s ∈ l, s.I) (h1 : l.length ≤ cap) (h2 : cap ≤ maxLen) :
    IsSecs (w.alloc (.cells cs t)) (.slice (some ⟨H, 0, none⟩) l.length cap) l := by
  refine isSecs_cells hI h1 h2 fun k v hv => ?_
  subst hH hc
  rw [World.cell?_alloc_new]
  simpa using hv

/-- A slice of numbers of 16 bits. -/
def IsU16 (w : World) (v : Value) (n : Nat) : Prop :=
  (v = .slice none 0 0 ∧ n = 0) ∨
  ∃ (a : Addr) (cap : Nat), v = .slice (some a) n cap ∧ n ≤ cap ∧ cap ≤ maxLen ∧ ∀ i, i < n → ∃ x : Int, 0 ≤ x ∧ x ≤ 65535 ∧ w.cell? (a.add i) = some (.int .u16 x)
theorem isU16_of {w : World} {a : Addr} {len cap : Nat} {zs : List Int} (h1 : len ≤ cap) (h2 : cap ≤ maxLen) (hz : zs.length = cap) (hc : ∀ i, i < zs.length → w.cell? (a.add i) = some (.int .u16 (zs.getD i 0))) (hw : ∀ n ∈ zs, (Lit.int .u16 n).wf = true) :
    IsU16 w (.slice (some a) len cap) len := by
  refine .inr ⟨a, cap, rfl, h1, h2, fun i hi => ?_⟩
  have hlt : i < zs.length := by omega
  have e : zs.getD i 0 = zs[i] := by rw [List.getD_eq_getElem?_getD, List.getElem?_eq_getElem hlt]; rfl
  have hm := hw _ (List.getElem_mem hlt)
  simp [Lit.wf, IntKind.min, IntKind.max, IntKind.signed, IntKind.bits] at hm
  refine ⟨zs.getD i 0, by rw [e]; omega, by rw [e]; omega, hc i hlt⟩
theorem add0 (b k : Nat) : (⟨b, 0, none⟩ : Addr).add k = ⟨b, k, none⟩ := by
  unfold Addr.add
  split
  · rename_i h; rw [h]
  · simp

/-- The sum of heights, as 64 bits reckon it. -/
def hsumTo (l : List Sec) (k : Nat) : Int := (l.take k).foldl (fun t s => wrap64 (t + s.h)) 0
theorem hsumTo_succ (l : List Sec) (k : Nat) (s : Sec) (h : l[k]? = some s) : hsumTo l (k + 1) = wrap64 (hsumTo l k + s.h) := by
  unfold hsumTo
  rw [List.take_add_one, h]
  simp
/-- The sum of heights. -/
def hsumI (l : List Sec) (k : Nat) : Int := (l.take k).foldl (fun t s => t + s.h) 0
theorem hsumI_succ (l : List Sec) (k : Nat) (s : Sec) (h : l[k]? = some s) : hsumI l (k + 1) = hsumI l k + s.h := by
  unfold hsumI
  rw [List.take_add_one, h]
  simp
/-- Is it one of them? (Behind a name: the walk does not look in.) -/
def inB (v a b : Int) : Bool := decide (a ≤ v) && decide (v ≤ b)
/-- A section that may be. -/
def secOk (s : Sec) : Bool := decide (1 ≤ s.h) && decide (s.h ≤ 60000) && decide (s.h.tmod 100 = 0) && inB s.a0 0 20000 && inB s.a1 1 20000 &&
  (if s.r then decide (s.b0 = 0) && decide (s.b1 = 0) else inB s.b0 0 20000 && inB s.b1 1 20000)
def okTo (l : List Sec) (k : Nat) : Bool := (l.take k).all secOk
/-- A shape that may be. -/
def rightS (l : List Sec) : Bool := decide (1 ≤ l.length) && decide (l.length ≤ 4) && l.all secOk && decide (hsumI l l.length ≤ 60000)
theorem okTo_succ (l : List Sec) (k : Nat) (s : Sec) (h : l[k]? = some s) (hk : okTo l k = true) (hs : secOk s = true) : okTo l (k + 1) = true := by
  unfold okTo at *
  rw [List.take_add_one, h]
  simp at hk ⊢
  exact ⟨hk, hs⟩
theorem secOk_h (s : Sec) (h : secOk s = true) : 1 ≤ s.h ∧ s.h ≤ 60000 := by
  unfold secOk at h
  simp only [Bool.and_eq_true, decide_eq_true_eq] at h
  exact ⟨h.1.1.1.1.1, h.1.1.1.1.2⟩
theorem hsum_small (l : List Sec) (k : Nat) (h : okTo l k = true) : 0 ≤ hsumI l k ∧ hsumI l k ≤ 60000 * (k : Int) := by
  induction k with
  | zero => simp [hsumI]
  | succ k ih =>
    cases hg : l[k]? with
    | none =>
      have e1 : l.take (k + 1) = l.take k := by rw [List.take_add_one, hg]; simp
      unfold okTo hsumI at *
      rw [e1] at h ⊢
      have := ih h
      omega
    | some s =>
      have h' : okTo l k = true ∧ secOk s = true := by
        unfold okTo at *
        rw [List.take_add_one, hg] at h
        simpa using h
      have := ih h'.1
      have hs := secOk_h s h'.2
      rw [hsumI_succ l k s hg]
      omega
theorem rightS_short (l : List Sec) (h : l.length < 1) : rightS l = false := by
  unfold rightS
  rw [decide_eq_false (show ¬ 1 ≤ l.length by omega)]
  simp
theorem rightS_long (l : List Sec) (h : 4 < l.length) : rightS l = false := by
  unfold rightS
  rw [decide_eq_false (show ¬ l.length ≤ 4 by omega)]
  simp
theorem rightS_bad (l : List Sec) (k : Nat) (s : Sec) (h : l[k]? = some s) (hs : secOk s = false) : rightS l = false := by
  have : l.all secOk = false := by
    rw [List.all_eq_false]
    exact ⟨s, List.mem_of_getElem? h, by simp [hs]⟩
  unfold rightS
  rw [this]
  simp
theorem rightS_end (l : List Sec) (h1 : 1 ≤ l.length) (h2 : l.length ≤ 4) (h : okTo l l.length = true) : rightS l = decide (hsumI l l.length ≤ 60000) := by
  unfold rightS
  unfold okTo at h
  rw [List.take_length] at h
  rw [decide_eq_true h1, decide_eq_true h2, h]
  simp
theorem secOk_eq (s : Sec) (m : Int) (hm : s.h.tmod 100 = m) : secOk s = (!(decide (s.h < 1)) && !(decide (60000 < s.h)) && !(m != 0) && inB s.a0 0 20000 && inB s.a1 1 20000 &&
    (if s.r then !(s.b0 != 0) && !(s.b1 != 0) else inB s.b0 0 20000 && inB s.b1 1 20000)) := by
  unfold secOk
  rw [hm]
  have e1 : decide (1 ≤ s.h) = !(decide (s.h < 1)) := by
    by_cases h : 1 ≤ s.h
    · rw [decide_eq_true h, decide_eq_false (by omega)]; rfl
    · rw [decide_eq_false h, decide_eq_true (by omega)]; rfl
  have e2 : decide (s.h ≤ 60000) = !(decide (60000 < s.h)) := by
    by_cases h : s.h ≤ 60000
    · rw [decide_eq_true h, decide_eq_false (by omega)]; rfl
    · rw [decide_eq_false h, decide_eq_true (by omega)]; rfl
  have e3 : ∀ x : Int, decide (x = 0) = !(x != 0) := by
    intro x
    by_cases h : x = 0
    · subst h; rfl
    · rw [decide_eq_false h]; simp [h]
  rw [e1, e2, e3, e3, e3]
end Go.Proofs.Ytkiepmfknbbeaaa
