/-
  Plain mathematics of layer 1: what fits 64 bits; signs of bits. No program is named here; What becomes of the world in a call that turns nothing that was there: new blocks, draws; Slices of sections: how they lie in memory. No program is named here; Plain facts of sections that may be. No program is named here; Plain mathematics of a division of 128 bits by 64: one digit at a time (base 2^32). No program is named here; Plain mathematics of a product by a number, made whole downwards or upwards. No program is named here; Plain mathematics of a straight side: from its lower end to its upper one, made whole. No program is named here; The sides of a section at a height. No program is named here; Contracts of the library at this translation, laid by the shelf in plain words; Contracts of the library's product and quotient of 64 and 128 bits, at this translation; Contracts of layer 1: the product by a number; Contracts of layer 3: bounds of sides; Contracts of layer 3: a side at a height; The document's shapes: which may be.
-/
import Derived.Test.YtglniapfnhedoaaChecked
import Derived.Deep.QuietTactic
import Derived.BigQuiet
import Derived.Outline
import Derived.Lib.Hide
import Derived.WalkKit
import Derived.Laws.Bits64b
import Derived.Lib.BitFns
import Derived.KernelRfl
import Derived.Lib.MinMax
import Derived.RowKit3
import Derived.Deep.Draws
import Derived.Deep.AppendLies
import Derived.Shelf.Small.Bits
import Derived.Shelf.Strconv.Itoa0
import Derived.Shelf.Bits.Mul64
import Derived.Test.YtglniapfnhedoaaProg
namespace Go.Proofs.Ytglniapfnhedoaa
open Go.RowKit
/-- An int64 holds it. -/
def I64 (v : Int) : Prop := -9223372036854775808 ≤ v ∧ v ≤ 9223372036854775807
instance (v : Int) : Decidable (I64 v) := inferInstanceAs (Decidable (_ ∧ _))
/-- What is answered beside the error: the number, or nought. -/
def qv (v : Int) : Int := if I64 v then v else 0
/-- The error: none, or ErrOver. -/
def qe (v : Int) : Int := if I64 v then 0 else 21
theorem qv_yes {v : Int} (h : I64 v) : qv v = v := if_pos h
theorem qe_yes {v : Int} (h : I64 v) : qe v = 0 := if_pos h
theorem qv_no {v : Int} (h : ¬ I64 v) : qv v = 0 := if_neg h
theorem qe_no {v : Int} (h : ¬ I64 v) : qe v = 21 := if_neg h
theorem i64_wf {n : Int} (w : (Lit.int .i64 n).wf = true) : I64 n := by
  simp [Lit.wf, IntKind.min, IntKind.max, IntKind.signed, IntKind.bits] at w
  unfold I64; omega
end Go.Proofs.Ytglniapfnhedoaa

namespace Go.Proofs.Ytglniapfnhedoaa
open Go.RowKit
/-- The world behind is the one before, but for draws. -/
def Dr (w w' : World) : Prop := ∃ n, w' = w.drewN n
theorem Dr.refl (w : World) : Dr w w := ⟨0, rfl⟩
theorem Dr.trans {a b c : World} (h : Dr a b) (k : Dr b c) : Dr a c := by
  obtain ⟨n, rfl⟩ := h
  obtain ⟨m, rfl⟩ := k
  exact ⟨n + m, World.drewN_drewN _ _ _⟩
/-- New blocks and draws: of what was there nothing turns, and no mark. -/
structure Q (w w' : World) : Prop where
  below : Below w.heap.size w w'
  marks : ∀ a, w'.frozen? a = w.frozen? a
theorem Q.refl (w : World) : Q w w := ⟨Below.refl _ _, fun _ => rfl⟩
theorem Q.trans {a b c : World} (h : Q a b) (k : Q b c) : Q a c :=
  ⟨h.below.trans (k.below.mono h.below.size), fun x => (k.marks x).trans (h.marks x)⟩
theorem Q.drew {a w : World} (h : Q a w) : Q a w.drew := ⟨h.below.drew, h.marks⟩
theorem Q.drewN {a w : World} (h : Q a w) (n : Nat) : Q a (w.drewN n) := ⟨⟨h.below.os, h.below.tape, h.below.output, h.below.size, h.below.block⟩, h.marks⟩
theorem Q.dr {a b c : World} (h : Q a b) (k : Dr b c) : Q a c := by obtain ⟨n, rfl⟩ := k; exact h.drewN n
theorem Dr.q {a b : World} (k : Dr a b) : Q a b := (Q.refl a).dr k
theorem Q.grown {a w : World} (h : Q a w) : Grown a w := ⟨h.below.frame _, h.marks, h.below.size⟩
theorem Q.alloc {a w : World} (h : Q a w) (c : Array Value) (t : TypeId) : Q a (w.alloc (.cells c t)) :=
  ⟨h.below.alloc h.below.size _, fun x => ((Grown.refl w).alloc c t).2.1 x |>.trans (h.marks x)⟩
theorem Q.setCell {a w : World} (h : Q a w) {p : Addr} (hp : a.heap.size ≤ p.block) (v : Value) : Q a (w.setCell p v) :=
  ⟨h.below.setCell hp v, fun x => (World.frozen?_setCell _ _ _ _).trans (h.marks x)⟩
/-- What a cell holds stays. -/
theorem Q.keep {w w' : World} (h : Q w w') {p : Addr} {v : Value} (hc : w.cell? p = some v) : w'.cell? p = some v := by
  rw [h.below.cell (World.block_lt_of_cell? w p hc)]; exact hc
/-- Of what was there nothing turns. (Weaker than Q: it serves behind an append.) -/
structure B (w w' : World) : Prop where
  below : Below w.heap.size w w'
theorem Q.b {w w' : World} (h : Q w w') : B w w' := ⟨h.below⟩
theorem B.refl (w : World) : B w w := ⟨Below.refl _ _⟩
theorem B.trans {a b c : World} (h : B a b) (k : B b c) : B a c := ⟨h.below.trans (k.below.mono h.below.size)⟩
theorem B.drew {a w : World} (h : B a w) : B a w.drew := ⟨h.below.drew⟩
theorem B.drewN {a w : World} (h : B a w) (n : Nat) : B a (w.drewN n) := ⟨⟨h.below.os, h.below.tape, h.below.output, h.below.size, h.below.block⟩⟩
theorem B.alloc {a w : World} (h : B a w) (c : Array Value) (t : TypeId) : B a (w.alloc (.cells c t)) := ⟨h.below.alloc h.below.size _⟩
theorem B.setCell {a w : World} (h : B a w) {p : Addr} (hp : a.heap.size ≤ p.block) (v : Value) : B a (w.setCell p v) := ⟨h.below.setCell hp v⟩
theorem B.keep {w w' : World} (h : B w w') {p : Addr} {v : Value} (hc : w.cell? p = some v) : w'.cell? p = some v := by
  rw [h.below.cell (World.block_lt_of_cell? w p hc)]; exact hc
theorem B.grownBy {a w w' : World} {row : Option Nat} (h : B a w) (g : w.grownBy w' row) (hr : ∀ k, row = some k → a.heap.size ≤ k) : B a w' :=
  ⟨⟨g.os.trans h.below.os, g.tape.trans h.below.tape, g.output.trans h.below.output, Nat.le_trans h.below.size g.size, fun k hk => by
    rw [g.block k (Nat.lt_of_lt_of_le hk h.below.size) (fun e => by have := hr k e.symm; omega)]
    exact h.below.block k hk⟩⟩
end Go.Proofs.Ytglniapfnhedoaa

namespace Go.Proofs.Ytglniapfnhedoaa
open Go.RowKit
/-- A section's numbers. -/
structure Sec where
  r : Bool
  h : Int
  a0 : Int
  b0 : Int
  a1 : Int
  b1 : Int
  deriving DecidableEq, Inhabited
/-- Each fits 64 bits. -/
def Sec.I (s : Sec) : Prop := I64 s.h ∧ I64 s.a0 ∧ I64 s.b0 ∧ I64 s.a1 ∧ I64 s.b1
def Sec.cells (s : Sec) : List Value := [.bool s.r, .int .i64 s.h, .int .i64 s.a0, .int .i64 s.b0, .int .i64 s.a1, .int .i64 s.b1]
/-- It lies there. -/
structure SecAt (w : World) (p : Addr) (s : Sec) : Prop where
  r : w.cell? p = some (.bool s.r)
  h : w.cell? ⟨p.block, p.off + 1, none⟩ = some (.int .i64 s.h)
  a0 : w.cell? ⟨p.block, p.off + 2, none⟩ = some (.int .i64 s.a0)
  b0 : w.cell? ⟨p.block, p.off + 3, none⟩ = some (.int .i64 s.b0)
  a1 : w.cell? ⟨p.block, p.off + 4, none⟩ = some (.int .i64 s.a1)
  b1 : w.cell? ⟨p.block, p.off + 5, none⟩ = some (.int .i64 s.b1)
theorem SecAt.keep {w w' : World} {p : Addr} {s : Sec} (h : SecAt w p s) (q : Q w w') : SecAt w' p s :=
  ⟨q.keep h.r, q.keep h.h, q.keep h.a0, q.keep h.b0, q.keep h.a1, q.keep h.b1⟩
/-- The value is a slice of these sections. -/
def IsSecs (w : World) (v : Value) (l : List Sec) : Prop :=
  (v = .slice none 0 0 ∧ l = []) ∨
  ∃ (a : Addr) (cap : Nat), v = .slice (some a) l.length cap ∧ l.length ≤ cap ∧ cap ≤ maxLen ∧ ∀ i s, l[i]? = some s → s.I ∧ SecAt w (a.add (i * 6)) s
theorem SecAt.keepB {w w' : World} {p : Addr} {s : Sec} (h : SecAt w p s) (q : B w w') : SecAt w' p s :=
  ⟨q.keep h.r, q.keep h.h, q.keep h.a0, q.keep h.b0, q.keep h.a1, q.keep h.b1⟩
theorem IsSecs.keepB {w w' : World} {v : Value} {l : List Sec} (h : IsSecs w v l) (q : B w w') : IsSecs w' v l := by
  rcases h with h | ⟨a, cap, h1, h2, h3, h4⟩
  · exact .inl h
  · exact .inr ⟨a, cap, h1, h2, h3, fun i s hs => ⟨(h4 i s hs).1, (h4 i s hs).2.keepB q⟩⟩
theorem IsSecs.keep {w w' : World} {v : Value} {l : List Sec} (h : IsSecs w v l) (q : Q w w') : IsSecs w' v l := by
  rcases h with h | ⟨a, cap, h1, h2, h3, h4⟩
  · exact .inl h
  · exact .inr ⟨a, cap, h1, h2, h3, fun i s hs => ⟨(h4 i s hs).1, (h4 i s hs).2.keep q⟩⟩
/-- All cells of sections, one behind the other. -/
def flat (l : List Sec) : List Value := l.flatMap Sec.cells
theorem flat_get : ∀ (l : List Sec) (i j : Nat) (s : Sec), l[i]? = some s → j < 6 → (flat l)[i * 6 + j]? = s.cells[j]?
  | [], _, _, _, h, _ => by simp at h
  | x :: l, 0, j, s, h, hj => by
    simp at h
    subst h
    show (x.cells ++ flat l)[0 * 6 + j]? = x.cells[j]?
    rw [Nat.zero_mul, Nat.zero_add, List.getElem?_append_left (by simpa [Sec.cells] using hj)]
  | x :: l, i + 1, j, s, h, hj => by
    show (x.cells ++ flat l)[(i + 1) * 6 + j]? = s.cells[j]?
    rw [List.getElem?_append_right (by simp [Sec.cells]; omega)]
    have e : (i + 1) * 6 + j - x.cells.length = i * 6 + j := by simp [Sec.cells]; omega
    rw [e]
    exact flat_get l i j s (by simpa using h) hj
/-- Sections whose cells are a block's first ones. -/
theorem isSecs_cells {w : World} {l : List Sec} {b cap : Nat} (hI : ∀ s ∈ l, s.I) (h1 : l.length ≤ cap) (h2 : cap ≤ maxLen)
    (hc : ∀ k v, (flat l)[k]? = some v → w.cell? ⟨b, k, none⟩ = some v) : IsSecs w (.slice (some ⟨b, 0, none⟩) l.length cap) l := by
  refine .inr ⟨⟨b, 0, none⟩, cap, rfl, h1, h2, fun i s hs => ⟨hI s (List.mem_of_getElem? hs), ?_⟩⟩
  have e : (⟨b, 0, none⟩ : Addr).add (i * 6) = ⟨b, i * 6, none⟩ := by
    unfold Addr.add
    split
    · rename_i h; rw [h]
    · simp
  have g : ∀ j v, j < 6 → s.cells[j]? = some v → w.cell? ⟨b, i * 6 + j, none⟩ = some v := fun j v hj hv => hc _ _ ((flat_get l i j s hs hj).trans hv)
  rw [e]
  exact ⟨g 0 _ (by omega) rfl, g 1 _ (by omega) rfl, g 2 _ (by omega) rfl, g 3 _ (by omega) rfl, g 4 _ (by omega) rfl, g 5 _ (by omega) rfl⟩
theorem isSecs_new {w : World} {t : TypeId} {l : List Sec} {cs : Array Value} {cap H : Nat} (hc : cs = (flat l).toArray) (hH : w.heap.size = H) (hI : ∀ s ∈ l, s.I) (h1 : l.length ≤ cap) (h2 : cap ≤ maxLen) :
    IsSecs (w.alloc (.cells cs t)) (.slice (some ⟨H, 0, none⟩) l.length cap) l := by
  refine isSecs_cells hI h1 h2 fun k v hv => ?_
  subst hH hc
  rw [World.cell?_alloc_new]
  simpa using hv
/-- A slice of numbers of 16 bits. -/
def IsU16 (w : World) (v : Value) (n : Nat) : Prop :=
  (v = .slice none 0 0 ∧ n = 0) ∨
  ∃ (a : Addr) (cap : Nat), v = .slice (some a) n cap ∧ n ≤ cap ∧ cap ≤ maxLen ∧ ∀ i, i < n → ∃ x : Int, 0 ≤ x ∧ x ≤ 65535 ∧ w.cell? (a.add i) = some (.int .u16 x)
theorem isU16_of {w : World} {a : Addr} {len cap : Nat} {zs : List Int} (h1 : len ≤ cap) (h2 : cap ≤ maxLen) (hz : zs.length = cap) (hc : ∀ i, i < zs.length → w.cell? (a.add i) = some (.int .u16 (zs.getD i 0))) (hw : ∀ n ∈ zs, (Lit.int .u16 n).wf = true) :
    IsU16 w (.slice (some a) len cap) len := by
  refine .inr ⟨a, cap, rfl, h1, h2, fun i hi => ?_⟩
  have hlt : i < zs.length := by omega
  have e : zs.getD i 0 = zs[i] := by rw [List.getD_eq_getElem?_getD, List.getElem?_eq_getElem hlt]; rfl
  have hm := hw _ (List.getElem_mem hlt)
  simp [Lit.wf, IntKind.min, IntKind.max, IntKind.signed, IntKind.bits] at hm
  refine ⟨zs.getD i 0, by rw [e]; omega, by rw [e]; omega, hc i hlt⟩
theorem add0 (b k : Nat) : (⟨b, 0, none⟩ : Addr).add k = ⟨b, k, none⟩ := by
  unfold Addr.add
  split
  · rename_i h; rw [h]
  · simp
/-- The sum of heights. -/
def hsumI (l : List Sec) (k : Nat) : Int := (l.take k).foldl (fun t s => t + s.h) 0
theorem hsumI_succ (l : List Sec) (k : Nat) (s : Sec) (h : l[k]? = some s) : hsumI l (k + 1) = hsumI l k + s.h := by
  unfold hsumI
  rw [List.take_add_one, h]
  simp
/-- Is it one of them? (Behind a name: the walk does not look in.) -/
def inB (v a b : Int) : Bool := decide (a ≤ v) && decide (v ≤ b)
/-- A section that may be. -/
def secOk (s : Sec) : Bool := decide (1 ≤ s.h) && decide (s.h ≤ 60000) && decide (s.h.tmod 100 = 0) && inB s.a0 0 20000 && inB s.a1 1 20000 &&
  (if s.r then decide (s.b0 = 0) && decide (s.b1 = 0) else inB s.b0 0 20000 && inB s.b1 1 20000)
def okTo (l : List Sec) (k : Nat) : Bool := (l.take k).all secOk
/-- A shape that may be. -/
def rightS (l : List Sec) : Bool := decide (1 ≤ l.length) && decide (l.length ≤ 4) && l.all secOk && decide (hsumI l l.length ≤ 60000)
theorem okTo_succ (l : List Sec) (k : Nat) (s : Sec) (h : l[k]? = some s) (hk : okTo l k = true) (hs : secOk s = true) : okTo l (k + 1) = true := by
  unfold okTo at *
  rw [List.take_add_one, h]
  simp at hk ⊢
  exact ⟨hk, hs⟩
theorem secOk_h (s : Sec) (h : secOk s = true) : 1 ≤ s.h ∧ s.h ≤ 60000 := by
  unfold secOk at h
  simp only [Bool.and_eq_true, decide_eq_true_eq] at h
  exact ⟨h.1.1.1.1.1, h.1.1.1.1.2⟩
theorem hsum_small (l : List Sec) (k : Nat) (h : okTo l k = true) : 0 ≤ hsumI l k ∧ hsumI l k ≤ 60000 * (k : Int) := by
  induction k with
  | zero => simp [hsumI]
  | succ k ih =>
    cases hg : l[k]? with
    | none =>
      have e1 : l.take (k + 1) = l.take k := by rw [List.take_add_one, hg]; simp
      unfold okTo hsumI at *
      rw [e1] at h ⊢
      have := ih h
      omega
    | some s =>
      have h' : okTo l k = true ∧ secOk s = true := by
        unfold okTo at *
        rw [List.take_add_one, hg] at h
        simpa using h
      have := ih h'.1
      have hs := secOk_h s h'.2
      rw [hsumI_succ l k s hg]
      omega
theorem rightS_short (l : List Sec) (h : l.length < 1) : rightS l = false := by
  unfold rightS
  rw [decide_eq_false (show ¬ 1 ≤ l.length by omega)]
  simp
theorem rightS_long (l : List Sec) (h : 4 < l.length) : rightS l = false := by
  unfold rightS
  rw [decide_eq_false (show ¬ l.length ≤ 4 by omega)]
  simp
theorem rightS_bad (l : List Sec) (k : Nat) (s : Sec) (h : l[k]? = some s) (hs : secOk s = false) : rightS l = false := by
  have : l.all secOk = false := by
    rw [List.all_eq_false]
    exact ⟨s, List.mem_of_getElem? h, by simp [hs]⟩
  unfold rightS
  rw [this]
  simp
theorem rightS_end (l : List Sec) (h1 : 1 ≤ l.length) (h2 : l.length ≤ 4) (h : okTo l l.length = true) : rightS l = decide (hsumI l l.length ≤ 60000) := by
  unfold rightS
  unfold okTo at h
  rw [List.take_length] at h
  rw [decide_eq_true h1, decide_eq_true h2, h]
  simp
theorem secOk_eq (s : Sec) (m : Int) (hm : s.h.tmod 100 = m) : secOk s = (!(decide (s.h < 1)) && !(decide (60000 < s.h)) && !(m != 0) && inB s.a0 0 20000 && inB s.a1 1 20000 &&
    (if s.r then !(s.b0 != 0) && !(s.b1 != 0) else inB s.b0 0 20000 && inB s.b1 1 20000)) := by
  unfold secOk
  rw [hm]
  have e1 : decide (1 ≤ s.h) = !(decide (s.h < 1)) := by
    by_cases h : 1 ≤ s.h
    · rw [decide_eq_true h, decide_eq_false (by omega)]; rfl
    · rw [decide_eq_false h, decide_eq_true (by omega)]; rfl
  have e2 : decide (s.h ≤ 60000) = !(decide (60000 < s.h)) := by
    by_cases h : s.h ≤ 60000
    · rw [decide_eq_true h, decide_eq_false (by omega)]; rfl
    · rw [decide_eq_false h, decide_eq_true (by omega)]; rfl
  have e3 : ∀ x : Int, decide (x = 0) = !(x != 0) := by
    intro x
    by_cases h : x = 0
    · subst h; rfl
    · rw [decide_eq_false h]; simp [h]
  rw [e1, e2, e3, e3, e3]
end Go.Proofs.Ytglniapfnhedoaa

namespace Go.Proofs.Ytglniapfnhedoaa
open Go.RowKit
theorem wrapI {z : Int} (h1 : -9223372036854775808 ≤ z) (h2 : z ≤ 9223372036854775807) : IntKind.i64.wrap z = z := by
  rw [IntKind.wrap_i64]; omega
theorem inB_iff {v a b : Int} : inB v a b = true ↔ a ≤ v ∧ v ≤ b := by unfold inB; simp
theorem secOk_all {s : Sec} (h : secOk s = true) : 1 ≤ s.h ∧ s.h ≤ 60000 ∧ 0 ≤ s.a0 ∧ s.a0 ≤ 20000 ∧ 1 ≤ s.a1 ∧ s.a1 ≤ 20000 ∧ 0 ≤ s.b0 ∧ s.b0 ≤ 20000 ∧ 0 ≤ s.b1 ∧ s.b1 ≤ 20000 ∧ (s.r = true → s.b0 = 0 ∧ s.b1 = 0) := by
  unfold secOk at h
  simp only [Bool.and_eq_true, decide_eq_true_eq, inB_iff] at h
  obtain ⟨⟨⟨⟨⟨h1, h2⟩, _⟩, h4, h5⟩, h6, h7⟩, h8⟩ := h
  cases hr : s.r
  · rw [hr, if_neg (by decide)] at h8
    simp only [Bool.and_eq_true, inB_iff] at h8
    refine ⟨h1, h2, h4, h5, h6, h7, by omega, by omega, by omega, by omega, by simp⟩
  · rw [hr, if_pos rfl] at h8
    simp only [Bool.and_eq_true, decide_eq_true_eq] at h8
    refine ⟨h1, h2, h4, h5, h6, h7, by omega, by omega, by omega, by omega, fun _ => h8⟩
theorem right_all {l : List Sec} (h : rightS l = true) : 1 ≤ l.length ∧ l.length ≤ 4 ∧ ∀ s ∈ l, secOk s = true := by
  unfold rightS at h
  simp only [Bool.and_eq_true, decide_eq_true_eq] at h
  exact ⟨h.1.1.1, h.1.1.2, List.all_eq_true.1 h.1.2⟩
theorem IsU16.form {w : World} {v : Value} {n : Nat} (h : IsU16 w v n) : ∃ ao cap, v = .slice ao n cap ∧ n ≤ 9223372036854775807 := by
  rcases h with ⟨rfl, rfl⟩ | ⟨a, cap, rfl, h1, h2, _⟩
  · exact ⟨_, _, rfl, by omega⟩
  · exact ⟨_, _, rfl, by unfold maxLen at h2; omega⟩
theorem IsU16.keepB {w w' : World} {v : Value} {n : Nat} (h : IsU16 w v n) (q : B w w') : IsU16 w' v n := by
  rcases h with h | ⟨a, cap, h1, h2, h3, h4⟩
  · exact .inl h
  · exact .inr ⟨a, cap, h1, h2, h3, fun i hi => by obtain ⟨x, a1, a2, a3⟩ := h4 i hi; exact ⟨x, a1, a2, q.keep a3⟩⟩
end Go.Proofs.Ytglniapfnhedoaa

namespace Go.Proofs.Ytglniapfnhedoaa
/-- One digit: q is above or at the true digit, and r is what is left of u behind it. -/
structure Dig (u a b c q r : Nat) : Prop where
  rest : u = q * a + r
  up : (u * 4294967296 + c) / (a * 4294967296 + b) ≤ q
  few : q ≤ 4294967297
theorem dig_first (u a b c : Nat) (ha : 2147483648 ≤ a) (hb : b < 4294967296) (hc : c < 4294967296) (hu : u < a * 4294967296 + b) :
    Dig u a b c (u / a) (u - u / a * a) := by
  have hle := Nat.div_mul_le_self u a
  refine ⟨by omega, ?_, ?_⟩
  · rw [Nat.le_div_iff_mul_le (by omega)]
    -- q * a ≤ u, for q * (a * B + b) ≤ u * B + c
    have h := Nat.div_mul_le_self (u * 4294967296 + c) (a * 4294967296 + b)
    generalize (u * 4294967296 + c) / (a * 4294967296 + b) = q at *
    rw [Nat.mul_add, ← Nat.mul_assoc] at h
    generalize q * a = x at *
    generalize q * b = z at *
    omega
  · rw [← Nat.lt_succ_iff, Nat.div_lt_iff_lt_mul (by omega)]
    omega
/-- The true digit is below 2^32. -/
theorem dig_small (u a b c : Nat) (hc : c < 4294967296) (hu : u < a * 4294967296 + b) : (u * 4294967296 + c) / (a * 4294967296 + b) < 4294967296 := by
  rw [Nat.div_lt_iff_lt_mul (by omega)]; omega
/-- The digit is too great: one less, and what is left is more. -/
theorem Dig.next {u a b c q r : Nat} (hc : c < 4294967296) (hu : u < a * 4294967296 + b) (d : Dig u a b c q r) (h : 4294967296 ≤ q ∨ 4294967296 * r + c < q * b) :
    1 ≤ q ∧ Dig u a b c (q - 1) (r + a) := by
  have hs := dig_small u a b c hc hu
  have hq : (u * 4294967296 + c) / (a * 4294967296 + b) < q := by
    rcases h with h | h
    · omega
    · rw [Nat.div_lt_iff_lt_mul (show 0 < a * 4294967296 + b by omega), Nat.mul_add, ← Nat.mul_assoc]
      have := d.rest
      generalize q * a = x at *
      generalize q * b = z at *
      omega
  have hq1 : 0 < q := Nat.lt_of_le_of_lt (Nat.zero_le _) hq
  have hup : (u * 4294967296 + c) / (a * 4294967296 + b) ≤ q - 1 := Nat.le_sub_one_of_lt hq
  obtain ⟨p, rfl⟩ : ∃ p, q = p + 1 := ⟨q - 1, by omega⟩
  refine ⟨by omega, ⟨?_, hup, by have := d.few; omega⟩⟩
  have := d.rest
  rw [Nat.add_mul] at this
  simp only [Nat.add_sub_cancel]
  omega
/-- The digit is right. -/
theorem Dig.done {u a b c q r : Nat} (hb : b < 4294967296) (hu : u < a * 4294967296 + b) (d : Dig u a b c q r) (h : (q < 4294967296 ∧ q * b ≤ 4294967296 * r + c) ∨ (4294967296 ≤ r ∧ q ≤ 4294967296)) :
    q = (u * 4294967296 + c) / (a * 4294967296 + b) := by
  refine Nat.le_antisymm ?_ d.up
  rw [Nat.le_div_iff_mul_le (by omega), Nat.mul_add, ← Nat.mul_assoc]
  have hr := d.rest
  have hz : q * b ≤ 4294967296 * r + c := by
    rcases h with h | h
    · exact h.2
    · have : q * b ≤ 4294967296 * 4294967295 := Nat.mul_le_mul h.2 (by omega)
      omega
  generalize q * a = x at *
  generalize q * b = z at *
  omega
theorem two_digits (x c y B : Nat) (hy : 0 < y) : (x * B + c) / y = x / y * B + (x % y * B + c) / y ∧ (x * B + c) % y = (x % y * B + c) % y := by
  have e : x * B + c = (x % y * B + c) + y * (x / y * B) := by
    conv => lhs; rw [← Nat.div_add_mod x y]
    rw [Nat.add_mul, Nat.mul_assoc]; omega
  constructor
  · conv => lhs; rw [e]
    rw [Nat.add_mul_div_left _ _ hy]; omega
  · conv => lhs; rw [e]
    rw [Nat.add_mul_mod_self_left]
/-- The whole: of hi, lo, y, made long by s, the two digits make the quotient; what is left behind them, made short again, is the rest. -/
theorem div_whole (hi lo y s : Nat) (hs : s ≤ 63) (hlo : lo < 18446744073709551616) (hhy : hi < y) :
    let Y := y * 2 ^ s
    let U := hi * 2 ^ s + lo / 2 ^ (64 - s)
    let L := lo * 2 ^ s % 18446744073709551616
    let q1 := (U * 4294967296 + L / 4294967296) / Y
    let R := (U * 4294967296 + L / 4294967296) % Y
    let q0 := (R * 4294967296 + L % 4294967296) / Y
    let E := (R * 4294967296 + L % 4294967296) % Y
    U < Y ∧ q1 * 4294967296 + q0 = (hi * 18446744073709551616 + lo) / y ∧ E / 2 ^ s = (hi * 18446744073709551616 + lo) % y := by
  have hp : 0 < 2 ^ s := Nat.two_pow_pos s
  have hY : 0 < y * 2 ^ s := Nat.mul_pos (by omega) hp
  have h64 : (18446744073709551616 : Nat) = 2 ^ (64 - s) * 2 ^ s := by rw [← Nat.pow_add, show 64 - s + s = 64 from by omega]
  have hN : (hi * 18446744073709551616 + lo) * 2 ^ s = (hi * 2 ^ s + lo / 2 ^ (64 - s)) * 18446744073709551616 + lo * 2 ^ s % 18446744073709551616 := by
    have hm : lo * 2 ^ s / 18446744073709551616 = lo / 2 ^ (64 - s) := by rw [h64, Nat.mul_div_mul_right _ _ hp]
    have := Nat.div_add_mod (lo * 2 ^ s) 18446744073709551616
    rw [hm] at this
    rw [Nat.add_mul, Nat.add_mul, ← this, Nat.mul_right_comm]; omega
  have hd := two_digits ((hi * 2 ^ s + lo / 2 ^ (64 - s)) * 4294967296 + lo * 2 ^ s % 18446744073709551616 / 4294967296) (lo * 2 ^ s % 18446744073709551616 % 4294967296) (y * 2 ^ s) 4294967296 hY
  have hX : ((hi * 2 ^ s + lo / 2 ^ (64 - s)) * 4294967296 + lo * 2 ^ s % 18446744073709551616 / 4294967296) * 4294967296 + lo * 2 ^ s % 18446744073709551616 % 4294967296 = (hi * 18446744073709551616 + lo) * 2 ^ s := by
    rw [hN]; omega
  rw [hX, Nat.mul_div_mul_right _ _ hp, Nat.mul_mod_mul_right] at hd
  refine ⟨?_, hd.1.symm, ?_⟩
  · have h1 : lo / 2 ^ (64 - s) < 2 ^ s := by rw [Nat.div_lt_iff_lt_mul (Nat.two_pow_pos _), Nat.mul_comm, ← h64]; exact hlo
    have h2 : (hi + 1) * 2 ^ s ≤ y * 2 ^ s := Nat.mul_le_mul_right _ hhy
    rw [Nat.add_mul] at h2
    omega
  · show _ % (y * 2 ^ s) / 2 ^ s = _
    rw [← hd.2, Nat.mul_div_cancel _ hp]
theorem pow_parts (s : Nat) (hs : s ≤ 63) : 2 ^ (63 - s) * 2 ^ s = 9223372036854775808 ∧ 2 ^ (63 - s) * 2 * 2 ^ s = 18446744073709551616 := by
  have h : 2 ^ (63 - s) * 2 ^ s = 9223372036854775808 := by rw [← Nat.pow_add, show 63 - s + s = 63 from by omega]
  exact ⟨h, by rw [Nat.mul_right_comm, h]⟩
theorem bitLen_of (y s : Nat) (h1 : 9223372036854775808 ≤ y * 2 ^ s) (h2 : y * 2 ^ s < 18446744073709551616) (hs : s ≤ 63) : (64 : Int) - (Lib.bitLen y : Int) = (s : Int) := by
  obtain ⟨e1, e2⟩ := pow_parts s hs
  have hp := Nat.two_pow_pos s
  rw [← e1] at h1
  rw [← e2] at h2
  have l1 := Nat.le_of_mul_le_mul_right h1 hp
  have l2 := Nat.lt_of_mul_lt_mul_right h2
  have l3 : 2 ^ (63 - s) * 2 ≤ 2 ^ 64 := by
    have : 2 ^ (63 - s) ≤ 2 ^ 63 := Nat.pow_le_pow_right (by omega) (by omega)
    omega
  have h := Lib.bitLen_shift (63 - s) y l1 (by omega)
  have q : y / 2 ^ (63 - s) = 1 := Nat.div_eq_of_lt_le (by omega) (by omega)
  rw [q, show Lib.bitLen 1 = 1 from by decide +kernel] at h
  omega
theorem exists_s (y : Nat) (h0 : 0 < y) (h1 : y < 18446744073709551616) : ∃ s, s ≤ 63 ∧ 9223372036854775808 ≤ y * 2 ^ s ∧ y * 2 ^ s < 18446744073709551616 := by
  have a := Nat.log2_self_le (n := y) (by omega)
  have b := Nat.lt_log2_self (n := y)
  have c : y.log2 < 64 := (Nat.log2_lt (by omega)).2 h1
  obtain ⟨e1, e2⟩ := pow_parts (63 - y.log2) (by omega)
  rw [show 63 - (63 - y.log2) = y.log2 from by omega] at e1 e2
  have hp := Nat.two_pow_pos (63 - y.log2)
  refine ⟨63 - y.log2, by omega, ?_, ?_⟩
  · rw [← e1]; exact Nat.mul_le_mul_right _ a
  · rw [← e2]; rw [Nat.pow_succ] at b; exact Nat.mul_lt_mul_of_pos_right b hp
theorem wrapU (n : Int) : IntKind.u64.wrap n = n % 18446744073709551616 := IntKind.wrap_u64 n
theorem wrapN (a : Nat) (ha : a < 18446744073709551616) : IntKind.u64.wrap (a : Int) = (a : Int) := by rw [IntKind.wrap_u64]; omega
theorem wrapM (a : Nat) : IntKind.u64.wrap (a : Int) = ((a % 18446744073709551616 : Nat) : Int) := by rw [IntKind.wrap_u64]; omega
theorem maskN (a : Nat) (ha : a < 18446744073709551616) : bits .and .u64 (a : Int) 4294967295 = ((a % 4294967296 : Nat) : Int) := by
  have h := bits_and_u64_nat a 4294967295 ha (by omega)
  have e : a &&& 4294967295 = a % 4294967296 := Nat.and_two_pow_sub_one_eq_mod a 32
  rw [e] at h
  exact h
theorem or_join (s x y : Nat) (hx : 2 ^ s ∣ x) (hy : y < 2 ^ s) : x ||| y = x + y := by
  obtain ⟨k, rfl⟩ := hx
  rw [Nat.mul_comm, ← Nat.shiftLeft_eq, Nat.shiftLeft_add_eq_or_of_lt hy]
/-- The numbers that the walk meets, ahead of its first loop. -/
theorem div_ahead (hi lo y s : Nat) (hs : s ≤ 63) (h0 : hi < y) (hlo : lo < 18446744073709551616) (h5 : y * 2 ^ s < 18446744073709551616) :
    ∃ Y a b H K U L c d : Nat,
      IntKind.u64.wrap ((y : Int) * 2 ^ s) = (Y : Int) ∧ (Y : Int) / 4294967296 = (a : Int) ∧ bits .and .u64 (Y : Int) 4294967295 = (b : Int) ∧
      IntKind.u64.wrap ((hi : Int) * 2 ^ s) = (H : Int) ∧ (lo : Int) / 2 ^ (64 - s) = (K : Int) ∧ bits .or .u64 (H : Int) (K : Int) = (U : Int) ∧
      IntKind.u64.wrap ((lo : Int) * 2 ^ s) = (L : Int) ∧ (L : Int) / 4294967296 = (c : Int) ∧ bits .and .u64 (L : Int) 4294967295 = (d : Int) ∧
      Y = y * 2 ^ s ∧ Y = a * 4294967296 + b ∧ U = hi * 2 ^ s + lo / 2 ^ (64 - s) ∧ L = lo * 2 ^ s % 18446744073709551616 ∧ c = L / 4294967296 ∧ d = L % 4294967296 ∧ U < Y := by
  have hp := Nat.two_pow_pos s
  have hp' := Nat.two_pow_pos (64 - s)
  have h64 : (18446744073709551616 : Nat) = 2 ^ (64 - s) * 2 ^ s := by rw [← Nat.pow_add, show 64 - s + s = 64 from by omega]
  have hU := (div_whole hi lo y s hs hlo h0).1
  have hH : hi * 2 ^ s < 18446744073709551616 := Nat.lt_of_le_of_lt (Nat.mul_le_mul_right _ (Nat.le_of_lt h0)) h5
  have hK : lo / 2 ^ (64 - s) < 2 ^ s := by rw [Nat.div_lt_iff_lt_mul hp', Nat.mul_comm, ← h64]; exact hlo
  have hK2 : lo / 2 ^ (64 - s) < 18446744073709551616 := Nat.lt_of_le_of_lt (Nat.div_le_self _ _) hlo
  refine ⟨y * 2 ^ s, y * 2 ^ s / 4294967296, y * 2 ^ s % 4294967296, hi * 2 ^ s, lo / 2 ^ (64 - s), hi * 2 ^ s + lo / 2 ^ (64 - s), lo * 2 ^ s % 18446744073709551616, lo * 2 ^ s % 18446744073709551616 / 4294967296, lo * 2 ^ s % 18446744073709551616 % 4294967296, ?_, ?_, ?_, ?_, ?_, ?_, ?_, ?_, ?_, rfl, ?_, rfl, rfl, rfl, rfl, hU⟩
  · rw [show ((y : Int) * 2 ^ s) = ((y * 2 ^ s : Nat) : Int) by push_cast; rfl]; exact wrapN _ h5
  · omega
  · exact maskN _ h5
  · rw [show ((hi : Int) * 2 ^ s) = ((hi * 2 ^ s : Nat) : Int) by push_cast; rfl]; exact wrapN _ hH
  · push_cast; rfl
  · rw [bits_or_u64_nat _ _ hH hK2, or_join s _ _ (Nat.dvd_mul_left _ _) hK]
  · rw [show ((lo : Int) * 2 ^ s) = ((lo * 2 ^ s : Nat) : Int) by push_cast; rfl]; exact wrapM _
  · omega
  · exact maskN _ (Nat.mod_lt _ (by omega))
  · omega
theorem left_num (U c Z R : Nat) (h : Z + R = U * 4294967296 + c) (hR : R < 18446744073709551616) :
    IntKind.u64.wrap (((U * 4294967296 % 18446744073709551616 : Nat) : Int) + (c : Int) - ((Z % 18446744073709551616 : Nat) : Int)) = (R : Int) := by
  rw [wrapU]; omega
/-- What is left behind a digit: the walk reckons it in 64 bits, and it is what it should be. -/
theorem left_behind (U c Y q : Nat) (hc : c < 4294967296) (hY0 : 0 < Y) (hY : Y < 18446744073709551616) (hq : q = (U * 4294967296 + c) / Y) :
    ∃ M Z R : Nat, IntKind.u64.wrap ((U : Int) * 4294967296) = (M : Int) ∧ M + c < 18446744073709551616 ∧ IntKind.u64.wrap ((q : Int) * (Y : Int)) = (Z : Int) ∧
      IntKind.u64.wrap ((M : Int) + (c : Int) - (Z : Int)) = (R : Int) ∧ R < Y ∧ R = (U * 4294967296 + c) % Y := by
  refine ⟨U * 4294967296 % 18446744073709551616, q * Y % 18446744073709551616, (U * 4294967296 + c) % Y, ?_, ?_, ?_, ?_, Nat.mod_lt _ hY0, rfl⟩
  · rw [wrapU]; omega
  · omega
  · rw [show ((q : Int) * (Y : Int)) = ((q * Y : Nat) : Int) by push_cast; rfl]; exact wrapM _
  · have h := Nat.div_add_mod (U * 4294967296 + c) Y
    rw [← hq, Nat.mul_comm] at h
    exact left_num U c (q * Y) _ h (Nat.lt_trans (Nat.mod_lt _ hY0) hY)
/-- The five ways through a round of the search for a digit: twice on, thrice out. -/
theorem dig_ways {u a b c q r : Nat} (hb : b < 4294967296) (hc : c < 4294967296) (hu : u < a * 4294967296 + b) (d : Dig u a b c q r) :
    (decide ((4294967296 : Int) ≤ (q : Int)) = true ∧ decide ((4294967296 : Int) ≤ (r : Int) + (a : Int)) = false ∧ 1 ≤ q ∧ q ≤ 4294967297 ∧ r + a < 4294967296 ∧ Dig u a b c (q - 1) (r + a)) ∨
    (decide ((4294967296 : Int) ≤ (q : Int)) = false ∧ q * b < 18446744073709551616 ∧ decide ((4294967296 : Int) * (r : Int) + (c : Int) < (q : Int) * (b : Int)) = true ∧ decide ((4294967296 : Int) ≤ (r : Int) + (a : Int)) = false ∧ 1 ≤ q ∧ q ≤ 4294967297 ∧ r + a < 4294967296 ∧ Dig u a b c (q - 1) (r + a)) ∨
    (∃ Q : Nat, decide ((4294967296 : Int) ≤ (q : Int)) = true ∧ decide ((4294967296 : Int) ≤ (r : Int) + (a : Int)) = true ∧ 1 ≤ q ∧ q ≤ 4294967297 ∧ (q : Int) - 1 = (Q : Int) ∧ Q = (u * 4294967296 + c) / (a * 4294967296 + b)) ∨
    (∃ Q : Nat, decide ((4294967296 : Int) ≤ (q : Int)) = false ∧ q * b < 18446744073709551616 ∧ decide ((4294967296 : Int) * (r : Int) + (c : Int) < (q : Int) * (b : Int)) = true ∧ decide ((4294967296 : Int) ≤ (r : Int) + (a : Int)) = true ∧ 1 ≤ q ∧ q ≤ 4294967297 ∧ (q : Int) - 1 = (Q : Int) ∧ Q = (u * 4294967296 + c) / (a * 4294967296 + b)) ∨
    (decide ((4294967296 : Int) ≤ (q : Int)) = false ∧ q * b < 18446744073709551616 ∧ decide ((4294967296 : Int) * (r : Int) + (c : Int) < (q : Int) * (b : Int)) = false ∧ q ≤ 4294967297 ∧ q = (u * 4294967296 + c) / (a * 4294967296 + b)) := by
  have hfew := d.few
  by_cases hq : 4294967296 ≤ q
  · obtain ⟨h1, d'⟩ := d.next hc hu (Or.inl hq)
    have hqB : decide ((4294967296 : Int) ≤ (q : Int)) = true := decide_eq_true (by omega)
    by_cases hl : 4294967296 ≤ r + a
    · exact Or.inr (Or.inr (Or.inl ⟨q - 1, hqB, decide_eq_true (by omega), h1, hfew, by omega, d'.done hb hu (Or.inr ⟨hl, by omega⟩)⟩))
    · exact Or.inl ⟨hqB, decide_eq_false (by omega), h1, hfew, by omega, d'⟩
  · have hqb : q * b < 18446744073709551616 := by
      have : q * b ≤ 4294967295 * 4294967295 := Nat.mul_le_mul (by omega) (by omega)
      omega
    have hqB : decide ((4294967296 : Int) ≤ (q : Int)) = false := decide_eq_false (by omega)
    by_cases hz : 4294967296 * r + c < q * b
    · obtain ⟨h1, d'⟩ := d.next hc hu (Or.inr hz)
      have hzB : decide ((4294967296 : Int) * (r : Int) + (c : Int) < (q : Int) * (b : Int)) = true := decide_eq_true (by rw [← Int.natCast_mul q b]; omega)
      by_cases hl : 4294967296 ≤ r + a
      · exact Or.inr (Or.inr (Or.inr (Or.inl ⟨q - 1, hqB, hqb, hzB, decide_eq_true (by omega), h1, hfew, by omega, d'.done hb hu (Or.inr ⟨hl, by omega⟩)⟩)))
      · exact Or.inr (Or.inl ⟨hqB, hqb, hzB, decide_eq_false (by omega), h1, hfew, by omega, d'⟩)
    · exact Or.inr (Or.inr (Or.inr (Or.inr ⟨hqB, hqb, decide_eq_false (by rw [← Int.natCast_mul q b]; omega), hfew, d.done hb hu (Or.inl ⟨by omega, by omega⟩)⟩)))
/-- The first guess of a digit, as the walk reckons it. -/
theorem first_guess (U a b c : Nat) (ha : 2147483648 ≤ a) (ha2 : a < 4294967296) (hb : b < 4294967296) (hc : c < 4294967296) (hU : U < a * 4294967296 + b) :
    ∃ p t r : Nat, IntKind.u64.wrap ((U : Int) / (a : Int)) = (p : Int) ∧ IntKind.u64.wrap ((p : Int) * (a : Int)) = (t : Int) ∧ IntKind.u64.wrap ((U : Int) - (t : Int)) = (r : Int) ∧
      Dig U a b c p r ∧ r < 4294967296 := by
  have d := dig_first U a b c ha hb hc hU
  have h1 : U / a ≤ U := Nat.div_le_self _ _
  have h2 := Nat.div_mul_le_self U a
  have h3 := Nat.div_add_mod U a
  have h4 := Nat.mod_lt U (show 0 < a by omega)
  rw [Nat.mul_comm] at h3
  refine ⟨U / a, U / a * a, U - U / a * a, ?_, ?_, ?_, d, by omega⟩
  · rw [← Int.natCast_ediv]; exact wrapN _ (by omega)
  · rw [← Int.natCast_mul]; exact wrapN _ (by omega)
  · rw [← Int.natCast_sub h2]; exact wrapN _ (by omega)
/-- The quotient and the rest of 128 bits by 64. -/
def dq (hi lo y : Nat) : Nat := (hi * 18446744073709551616 + lo) / y
def dr (hi lo y : Nat) : Nat := (hi * 18446744073709551616 + lo) % y
theorem cast_sum (a b n : Nat) (h : a * 4294967296 + b = n) : (a : Int) * 4294967296 + (b : Int) = (n : Int) := by omega
theorem cast_low (e s m : Nat) (h : e / 2 ^ s = m) : (e : Int) / 2 ^ s = (m : Int) := by subst h; push_cast; rfl
theorem div_end {hi lo y s Y U L c d Q R P E : Nat} (hs : s ≤ 63) (h0 : hi < y) (hlo : lo < 18446744073709551616)
    (e1 : Y = y * 2 ^ s) (e2 : U = hi * 2 ^ s + lo / 2 ^ (64 - s)) (e3 : L = lo * 2 ^ s % 18446744073709551616) (e4 : c = L / 4294967296) (e5 : d = L % 4294967296)
    (e6 : Q = (U * 4294967296 + c) / Y) (e7 : R = (U * 4294967296 + c) % Y) (e8 : P = (R * 4294967296 + d) / Y) (e9 : E = (R * 4294967296 + d) % Y) :
    (Q : Int) * 4294967296 + (P : Int) = (dq hi lo y : Int) ∧ (E : Int) / 2 ^ s = (dr hi lo y : Int) := by
  have h := (div_whole hi lo y s hs hlo h0).2
  subst e1 e2 e3 e4 e5 e6 e7 e8 e9
  exact ⟨cast_sum _ _ _ h.1, cast_low _ _ _ h.2⟩
end Go.Proofs.Ytglniapfnhedoaa

namespace Go.Proofs.Ytglniapfnhedoaa
open Go.RowKit
/-- x by d (d above nought), made whole downwards, or upwards. -/
def mdQ (x d : Int) (up : Bool) : Int := if up then -((-x) / d) else x / d
/-- a times b by by, made whole. -/
def mq (a b y : Int) (up : Bool) : Int := mdQ (if y < 0 then -(a * b) else a * b) y.natAbs up
/-- What MulDiv answers. -/
def mv (a b y : Int) (up : Bool) : Int := if y = 0 then 0 else qv (mq a b y up)
def me (a b y : Int) (up : Bool) : Int := if y = 0 then 22 else qe (mq a b y up)
/-- An amount with a sign. -/
def sg (neg : Bool) (q : Nat) : Int := if neg then -(q : Int) else q
/-- Is the number below nought? By the signs of three. -/
def nb (a b y : Int) : Bool := (decide (a < 0) != decide (b < 0)) != decide (y < 0)
/-- An amount by a number, made whole away from nought, or towards it. -/
def qu (n d : Nat) (away : Bool) : Nat := n / d + (if away && decide (0 < n % d) then 1 else 0)
theorem sg_fits_pos (q : Nat) : I64 (sg false q) ↔ q ≤ 9223372036854775807 := by unfold I64 sg; simp; omega
theorem sg_fits_neg (q : Nat) : I64 (sg true q) ↔ q ≤ 9223372036854775808 := by unfold I64 sg; simp; omega
theorem neg_div (n d : Nat) (hd : 0 < d) : (-(n : Int)) / (d : Int) = -(qu n d true : Int) := by
  unfold qu
  rw [Int.neg_ediv]
  have hs : (d : Int).sign = 1 := Int.sign_eq_one_of_pos (by omega)
  by_cases hr : 0 < n % d
  · have hnd : ¬ (d : Int) ∣ (n : Int) := by
      rw [Int.natCast_dvd_natCast, Nat.dvd_iff_mod_eq_zero]; omega
    rw [if_neg hnd, hs, if_pos (by simpa using hr)]
    push_cast; omega
  · have hnd : (d : Int) ∣ (n : Int) := by
      rw [Int.natCast_dvd_natCast, Nat.dvd_iff_mod_eq_zero]; omega
    rw [if_pos hnd, if_neg (by simpa using hr)]
    push_cast; omega
theorem mdQ_sg (n d : Nat) (hd : 0 < d) (up neg : Bool) : mdQ (sg neg n) d up = sg neg (qu n d (up != neg)) := by
  have h := neg_div n d hd
  have h0 : (n : Int) / (d : Int) = (qu n d false : Int) := by unfold qu; simp
  cases neg <;> cases up <;> simp [mdQ, sg, h, h0]
theorem sg_mul (a b y : Int) : (if y < 0 then -(a * b) else a * b) = sg (nb a b y) (a.natAbs * b.natAbs) := by
  unfold sg nb
  rw [Int.natCast_mul]
  by_cases ha : a < 0 <;> by_cases hb : b < 0 <;> by_cases hy : y < 0
  all_goals
    first | rw [show (a.natAbs : Int) = -a by omega] | rw [show (a.natAbs : Int) = a by omega]
    first | rw [show (b.natAbs : Int) = -b by omega] | rw [show (b.natAbs : Int) = b by omega]
    simp [ha, hb, hy, Int.neg_mul, Int.mul_neg]
theorem mq_eq (a b y : Int) (up : Bool) (hy : y ≠ 0) : mq a b y up = sg (nb a b y) (qu (a.natAbs * b.natAbs) y.natAbs (up != nb a b y)) := by
  unfold mq
  rw [sg_mul, mdQ_sg _ _ (by omega)]
/-- Too great already ahead of the division. -/
theorem over_early (n d : Nat) (neg away : Bool) (h : d ≤ n / 18446744073709551616) (hd : 0 < d) : ¬ I64 (sg neg (qu n d away)) := by
  have h1 : 18446744073709551616 ≤ n / d := by
    rw [Nat.le_div_iff_mul_le hd]
    have := Nat.div_mul_le_self n 18446744073709551616
    have := Nat.mul_le_mul_right 18446744073709551616 h
    omega
  have h2 : 18446744073709551616 ≤ qu n d away := by unfold qu; omega
  cases neg
  · rw [sg_fits_pos]; omega
  · rw [sg_fits_neg]; omega
theorem quot_small (n d : Nat) (h : n / 18446744073709551616 < d) : n / d < 18446744073709551616 := by
  rw [Nat.div_lt_iff_lt_mul (by omega)]
  rw [Nat.div_lt_iff_lt_mul (by omega)] at h
  omega
theorem abs_lt (a : Int) (h : I64 a) : a.natAbs < 18446744073709551616 ∧ a.natAbs ≤ 9223372036854775808 := by unfold I64 at h; omega
theorem dq_whole (n y : Nat) : dq (n / 18446744073709551616) (n % 18446744073709551616) y = n / y ∧ dr (n / 18446744073709551616) (n % 18446744073709551616) y = n % y := by
  unfold dq dr
  rw [Nat.div_add_mod' n 18446744073709551616]
  exact ⟨rfl, rfl⟩
end Go.Proofs.Ytglniapfnhedoaa

namespace Go.Proofs.Ytglniapfnhedoaa
open Go.RowKit
theorem ediv_between {n h lo hi : Int} (hh : 0 < h) (h1 : lo * h ≤ n) (h2 : n ≤ hi * h) : lo ≤ n / h ∧ n / h ≤ hi := by
  constructor
  · exact (Int.le_ediv_iff_mul_le hh).2 h1
  · have : n / h < hi + 1 := (Int.ediv_lt_iff_lt_mul hh).2 (by rw [Int.add_mul]; omega)
    omega
theorem mdQ_between {n h lo hi : Int} (hh : 0 < h) (h1 : lo * h ≤ n) (h2 : n ≤ hi * h) (up : Bool) : lo ≤ mdQ n h up ∧ mdQ n h up ≤ hi := by
  unfold mdQ
  cases up
  · exact ediv_between hh h1 h2
  · have := ediv_between (n := -n) (lo := -hi) (hi := -lo) hh (by rw [Int.neg_mul]; omega) (by rw [Int.neg_mul]; omega)
    simp only [if_true]
    omega
theorem mdQ_ways {n h : Int} (hh : 0 < h) : mdQ n h false ≤ mdQ n h true ∧ mdQ n h true ≤ mdQ n h false + 1 := by
  have h1 := Int.ediv_mul_le n (show h ≠ 0 by omega)
  have h2 := Int.lt_ediv_add_one_mul_self n hh
  have h3 := mdQ_between (n := n) (h := h) (lo := n / h) (hi := n / h + 1) hh h1 (by omega) true
  have e : mdQ n h false = n / h := rfl
  rw [e]
  exact h3
theorem mq_pos (d at_ h : Int) (hh : 0 < h) (up : Bool) : mq d at_ h up = mdQ (d * at_) h up := by
  unfold mq
  rw [if_neg (by omega), show (h.natAbs : Int) = h by omega]
/-- A side at a place, of its ends. -/
def sideM (x0 x1 at_ h : Int) (up : Bool) : Int := x0 + mv (x1 - x0) at_ h up
theorem side_mq {x0 x1 at_ h : Int} (h0 : 0 ≤ at_) (h1 : at_ ≤ h) (hh : 1 ≤ h) (up : Bool) :
    min 0 (x1 - x0) ≤ mq (x1 - x0) at_ h up ∧ mq (x1 - x0) at_ h up ≤ max 0 (x1 - x0) := by
  rw [mq_pos _ _ _ (by omega)]
  by_cases hd : 0 ≤ x1 - x0
  · have a1 : 0 ≤ (x1 - x0) * at_ := Int.mul_nonneg hd h0
    have a2 : (x1 - x0) * at_ ≤ (x1 - x0) * h := Int.mul_le_mul_of_nonneg_left h1 hd
    have := mdQ_between (n := (x1 - x0) * at_) (h := h) (lo := 0) (hi := x1 - x0) (by omega) (by omega) a2 up
    omega
  · have e : (x1 - x0) * at_ = -((x0 - x1) * at_) := by rw [← Int.neg_mul]; congr 1; omega
    have a1 : 0 ≤ (x0 - x1) * at_ := Int.mul_nonneg (by omega) h0
    have a2 : (x0 - x1) * at_ ≤ (x0 - x1) * h := Int.mul_le_mul_of_nonneg_left h1 (by omega)
    have e2 : (x1 - x0) * h = -((x0 - x1) * h) := by rw [← Int.neg_mul]; congr 1; omega
    have := mdQ_between (n := (x1 - x0) * at_) (h := h) (lo := x1 - x0) (hi := 0) (by omega) (by omega) (by omega) up
    omega
/-- There is no error, and it lies between the ends. -/
theorem side_fits {x0 x1 at_ h : Int} (a0 : 0 ≤ x0) (b0 : x0 ≤ 20000) (a1 : 0 ≤ x1) (b1 : x1 ≤ 20000) (h0 : 0 ≤ at_) (h1 : at_ ≤ h) (hh : 1 ≤ h) (up : Bool) :
    me (x1 - x0) at_ h up = 0 ∧ mv (x1 - x0) at_ h up = mq (x1 - x0) at_ h up ∧ min x0 x1 ≤ sideM x0 x1 at_ h up ∧ sideM x0 x1 at_ h up ≤ max x0 x1 := by
  have hq := side_mq (x0 := x0) (x1 := x1) h0 h1 hh up
  have hI : I64 (mq (x1 - x0) at_ h up) := by unfold I64; omega
  have e1 : mv (x1 - x0) at_ h up = mq (x1 - x0) at_ h up := by rw [mv, if_neg (by omega), qv_yes hI]
  refine ⟨by rw [me, if_neg (by omega), qe_yes hI], e1, ?_, ?_⟩
  all_goals
    unfold sideM
    rw [e1]
    omega
theorem side_ways {x0 x1 at_ h : Int} (a0 : 0 ≤ x0) (b0 : x0 ≤ 20000) (a1 : 0 ≤ x1) (b1 : x1 ≤ 20000) (h0 : 0 ≤ at_) (h1 : at_ ≤ h) (hh : 1 ≤ h) :
    sideM x0 x1 at_ h false ≤ sideM x0 x1 at_ h true ∧ sideM x0 x1 at_ h true ≤ sideM x0 x1 at_ h false + 1 := by
  unfold sideM
  rw [(side_fits a0 b0 a1 b1 h0 h1 hh false).2.1, (side_fits a0 b0 a1 b1 h0 h1 hh true).2.1, mq_pos _ _ _ (by omega), mq_pos _ _ _ (by omega)]
  have := mdQ_ways (n := (x1 - x0) * at_) (h := h) (by omega)
  omega
end Go.Proofs.Ytglniapfnhedoaa

namespace Go.Proofs.Ytglniapfnhedoaa
open Go.RowKit
/-- The sides of a section at a height. -/
def sideOf (s : Sec) (at_ : Int) (up : Bool) : Int × Int :=
  if 1 ≤ s.h ∧ inB s.a0 0 20000 = true ∧ inB s.a1 0 20000 = true ∧ inB s.b0 0 20000 = true ∧ inB s.b1 0 20000 = true then
    (sideM s.a0 s.a1 (min (max at_ 0) s.h) s.h up, if s.r then 0 else sideM s.b0 s.b1 (min (max at_ 0) s.h) s.h up)
  else (0, 0)
theorem sideOf_ok {s : Sec} (h : secOk s = true) (at_ : Int) (up : Bool) : sideOf s at_ up = (sideM s.a0 s.a1 (min (max at_ 0) s.h) s.h up, if s.r then 0 else sideM s.b0 s.b1 (min (max at_ 0) s.h) s.h up) := by
  obtain ⟨h1, h2, h3, h4, h5, h6, h7, h8, h9, h10, _⟩ := secOk_all h
  unfold sideOf
  rw [if_pos ⟨h1, inB_iff.2 ⟨h3, h4⟩, inB_iff.2 ⟨by omega, h6⟩, inB_iff.2 ⟨h7, h8⟩, inB_iff.2 ⟨h9, h10⟩⟩]
end Go.Proofs.Ytglniapfnhedoaa

namespace Go.Proofs
open Go.Shelf
def Try.lays134_ren : Go.Shelf.Ren := ⟨fun | 134 => 67 | 129 => 68 | n => n, fun | 53 => 81 | 3 => 3 | 4 => 4 | 46 => 76 | 5 => 5 | 9 => 9 | n => n, fun | n => n⟩
theorem Try.lays134 : Go.Proofs.Lays.n134 Try.prog Try.lays134_ren := {
  mixed := by kernel_rfl
  f129 := Try.func68.trans (congrArg some (by kernel_rfl))
  f134 := Try.func67.trans (congrArg some (by kernel_rfl))
  t3 := Try.underlying3
  a3 := Try.isAgg3
  z3 := Try.sizeOf3
  v3 := Try.zeroValue3
  t4 := Try.underlying4
  a4 := Try.isAgg4
  z4 := Try.sizeOf4
  v4 := Try.zeroValue4
  t5 := Try.underlying5
  a5 := Try.isAgg5
  z5 := Try.sizeOf5
  v5 := Try.zeroValue5
  t9 := Try.underlying9
  a9 := Try.isAgg9
  z9 := Try.sizeOf9
  v9 := Try.zeroValue9
  t46 := Try.underlying76
  a46 := Try.isAgg76
  z46 := Try.sizeOf76
  v46 := Try.zeroValue76
  t53 := Try.underlying81
  a53 := Try.isAgg81
  z53 := Try.sizeOf81
  v53 := Try.zeroValue81 }
theorem Try.bits_LeadingZeros64 (x : Int) (w : World) (h0 : 0 ≤ x) (h1 : x ≤ 18446744073709551615) :
    Calls Try.prog 67 #[.int .u64 x] w fun e w' => e = .returned (.int .i64 (64 - (Lib.bitLen x.toNat : Int))) ∧ w' = w := Any.bits_LeadingZeros64 Try.lays134 x w h0 h1
def Try.lays264_ren : Go.Shelf.Ren := ⟨fun | 264 => 63 | n => n, fun | 53 => 81 | 46 => 76 | n => n, fun | n => n⟩
theorem Try.lays264 : Go.Proofs.Lays.n264 Try.prog Try.lays264_ren := {
  mixed := by kernel_rfl
  f264 := Try.func63.trans (congrArg some (by kernel_rfl))
  t46 := Try.underlying76
  a46 := Try.isAgg76
  z46 := Try.sizeOf76
  v46 := Try.zeroValue76
  t53 := Try.underlying81
  a53 := Try.isAgg81
  z53 := Try.sizeOf81
  v53 := Try.zeroValue81 }
open Go.RowKit Go.Lib in
theorem Try.bits_Mul64 (x y : Nat) (hx : x < 18446744073709551616) (hy : y < 18446744073709551616) (w : World) :
    Calls Try.prog 63 #[.int .u64 x, .int .u64 y] w fun e w' => e = .returned (.tuple #[.int .u64 ((x * y / 18446744073709551616 : Nat) : Int), .int .u64 ((x * y % 18446744073709551616 : Nat) : Int)]) ∧ w' = w := Any.bits_Mul64 Try.lays264 x y hx hy w
end Go.Proofs

namespace Go.Proofs.Ytglniapfnhedoaa
open Go.RowKit
/-- How far a remainder is from 2^32. -/
def lack (y : Value) : Nat := 4294967296 - (intOf y).toNat
theorem mul64_any (x y : Nat) (hx : x < 18446744073709551616) (hy : y < 18446744073709551616) (w : World) :
    Calls Try.prog 63 #[.int .u64 x, .int .u64 y] w fun e w' => e = .returned (.tuple #[.int .u64 ((x * y / 18446744073709551616 : Nat) : Int), .int .u64 ((x * y % 18446744073709551616 : Nat) : Int)]) ∧ w = w' :=
  (Try.bits_Mul64 x y hx hy w).mono fun _ _ h => ⟨h.1, h.2.symm⟩
theorem lz_any (y s : Nat) (h1 : 9223372036854775808 ≤ y * 2 ^ s) (h2 : y * 2 ^ s < 18446744073709551616) (hs : s ≤ 63) (hy : y < 18446744073709551616) (w : World) :
    Calls Try.prog 67 #[.int .u64 y] w fun e w' => e = .returned (.int .i64 s) ∧ w = w' :=
  (Try.bits_LeadingZeros64 y w (by omega) (by omega)).mono fun _ _ h => ⟨by rw [h.1, Int.toNat_natCast, bitLen_of y s h1 h2 hs], h.2.symm⟩
theorem div64_zero (lo y : Nat) (h0 : 0 < y) (h2 : lo < 18446744073709551616) (h3 : y < 18446744073709551616) (w : World) :
    Calls Try.prog 65 #[.int .u64 0, .int .u64 lo, .int .u64 y] w fun e w' => e = .returned (.tuple #[.int .u64 (dq 0 lo y : Int), .int .u64 (dr 0 lo y : Int)]) ∧ Dr w w' := by
  have hw : IntKind.u64.wrap ((lo : Int) / (y : Int)) = ((lo / y : Nat) : Int) := by
    rw [← Int.natCast_ediv]
    exact wrapN _ (Nat.lt_of_le_of_lt (Nat.div_le_self _ _) h2)
  go_enter Try.func65, Try.ntmps65
  go_wp2
  go_quiet (fail)
  go_wp2
  go_ret2
  exact ⟨by rw [dq, dr, Nat.zero_mul, Nat.zero_add, Int.natCast_ediv, Int.natCast_emod]; rfl, _, rfl⟩
set_option maxRecDepth 100000 in
set_option maxHeartbeats 1000000 in
theorem div64_big (hi lo y s : Nat) (hh : 0 < hi) (h0 : hi < y) (h2 : lo < 18446744073709551616) (h3 : y < 18446744073709551616) (h4 : 9223372036854775808 ≤ y * 2 ^ s) (h5 : y * 2 ^ s < 18446744073709551616) (h6 : s ≤ 63) (w : World) :
    Calls Try.prog 65 #[.int .u64 hi, .int .u64 lo, .int .u64 y] w fun e w' => e = .returned (.tuple #[.int .u64 (dq hi lo y : Int), .int .u64 (dr hi lo y : Int)]) ∧ w = w' := by
  obtain ⟨Y, a, b, H, K, U, L, c, d, r1, r2, r3, r4, r5, r6, r7, r8, r9, e1, e2, e3, e4, e5, e6, hU⟩ := div_ahead hi lo y s h6 h0 h2 h5
  have ba : 2147483648 ≤ a ∧ a < 4294967296 ∧ b < 4294967296 ∧ Y < 18446744073709551616 ∧ c < 4294967296 ∧ d < 4294967296 := by
    rw [← e1] at h4 h5
    have : b < 4294967296 := by
      have : (Y : Int) % 4294967296 = b := by
        have := maskN Y h5
        rw [r3] at this; omega
      omega
    omega
  obtain ⟨ba1, ba2, bb, bY, bc, bd⟩ := ba
  have hUab : U < a * 4294967296 + b := by omega
  obtain ⟨p1, t1, g1, s1, s2, s3, D1, G1⟩ := first_guess U a b c ba1 ba2 bb bc hUab
  have lz := fun w => lz_any y s h4 h5 h6 h3 w
  go_enter Try.func65, Try.ntmps65
  have f1 := e2
  have f2 : 0 < Y := by omega
  have E1 := Lib.hid e1
  have E2 := Lib.hid e2
  have E3 := Lib.hid e3
  have E4 := Lib.hid e4
  have E5 := Lib.hid e5
  have E6 := Lib.hid e6
  have F1 := Lib.hid f1
  clear e1 e2 e3 e4 e5 e6 h4 h5 hU f1
  go_wp2_with fail
  refine (lz _).mono ?_
  rintro e w1 ⟨rfl, rfl⟩
  clear lz
  go_wp2
  clear r1 r2 r3 r4 r5 r6 r7 r8 r9 s1 s2 s3
  go_loop [15, 16] (fun x y => ∃ q r : Nat, Dig U a b c q r ∧ r < 4294967296 ∧ x = .int .u64 q ∧ y = .int .u64 r) (fun _ y => lack y)
  case atStart => exact ⟨p1, g1, D1, G1, rfl, rfl⟩
  case round =>
    clear D1 G1
    obtain ⟨q, r, hd, hr, rfl, rfl⟩ := hrel
    rcases dig_ways bb bc hUab hd with ⟨k1, k2, k3, k4, k5, k6⟩ | ⟨k1, k2, k3, k4, k5, k6, k7, k8⟩ | ⟨Q, k1, k2, k3, k4, k5, hQ⟩ | ⟨Q, k1, k2, k3, k4, k5, k6, k7, hQ⟩ | ⟨k1, k2, k3, k4, hQ⟩
    · clear hd
      go_wp2
      go_round
      case rel => exact ⟨q - 1, r + a, k6, k5, by go_num, by go_num⟩
      case measure => unfold lack; simp only [intOf]; omega
    · clear hd
      go_wp2
      go_round
      case rel => exact ⟨q - 1, r + a, k8, k7, by go_num, by go_num⟩
      case measure => unfold lack; simp only [intOf]; omega
    all_goals
      have hQs := dig_small U a b c bc hUab
      rw [← hQ] at hQs
      rw [← F1.out] at hQ
      obtain ⟨M, Z, R, l1, l2, l3, l4, l5, l6⟩ := left_behind U c Y _ bc f2 bY hQ
      have hRab : R < a * 4294967296 + b := by have := F1.out; omega
      obtain ⟨p2, t2, g2, s1, s2, s3, D2, G2⟩ := first_guess R a b d ba1 ba2 bb bd hRab
      have HQ := Lib.hid hQ
      have HR := Lib.hid l6
      clear hQ l6 hd
      go_wp2
      clear l1 l2 l3 l4 s1 s2 s3 k1 k2 k3
      go_loop [18, 16] (fun x y => ∃ q r : Nat, Dig R a b d q r ∧ r < 4294967296 ∧ x = .int .u64 q ∧ y = .int .u64 r) (fun _ y => lack y)
      case atStart => exact ⟨p2, g2, D2, G2, rfl, rfl⟩
      case round =>
        clear D2 G2
        obtain ⟨v, r, hd, hr, rfl, rfl⟩ := hrel
        rcases dig_ways bb bd hRab hd with ⟨m1, m2, m3, m4, m5, m6⟩ | ⟨m1, m2, m3, m4, m5, m6, m7, m8⟩ | ⟨V, m1, m2, m3, m4, m5, hV⟩ | ⟨V, m1, m2, m3, m4, m5, m6, m7, hV⟩ | ⟨m1, m2, m3, m4, hV⟩
        · clear hd
          go_wp2
          go_round
          case rel => exact ⟨v - 1, r + a, m6, m5, by go_num, by go_num⟩
          case measure => unfold lack; simp only [intOf]; omega
        · clear hd
          go_wp2
          go_round
          case rel => exact ⟨v - 1, r + a, m8, m7, by go_num, by go_num⟩
          case measure => unfold lack; simp only [intOf]; omega
        all_goals
          have hVs := dig_small R a b d bd hRab
          rw [← hV] at hVs
          rw [← F1.out] at hV
          obtain ⟨M', Z', E, l1, l2, l3, l4, l5', l6⟩ := left_behind R d Y _ bd f2 bY hV
          have fin := Lib.hid (div_end h6 h0 h2 E1.out E3.out E4.out E5.out E6.out HQ.out HR.out hV l6)
          clear hV l6 hd
          go_wp2
          go_ret2
          rw [← fin.out.1, ← fin.out.2]
          exact ⟨rfl, rfl⟩
theorem div64_any (hi lo y : Nat) (h0 : hi < y) (h2 : lo < 18446744073709551616) (h3 : y < 18446744073709551616) (w : World) :
    Calls Try.prog 65 #[.int .u64 hi, .int .u64 lo, .int .u64 y] w fun e w' => e = .returned (.tuple #[.int .u64 (dq hi lo y : Int), .int .u64 (dr hi lo y : Int)]) ∧ Dr w w' := by
  by_cases hh : hi = 0
  · subst hh
    exact div64_zero lo y h0 h2 h3 w
  · obtain ⟨s, h6, h4, h5⟩ := exists_s y (by omega) h3
    exact (div64_big hi lo y s (by omega) h0 h2 h3 h4 h5 h6 w).mono fun _ _ h => ⟨h.1, 0, by rw [h.2, World.drewN_zero]⟩
end Go.Proofs.Ytglniapfnhedoaa

namespace Go.Proofs.Ytglniapfnhedoaa
open Go.RowKit
theorem size_any (a : Int) (ha : I64 a) (w : World) :
    Calls Try.prog 64 #[.int .i64 a] w fun e w' => e = .returned (.int .u64 (a.natAbs : Int)) ∧ w = w' := by
  unfold I64 at ha
  obtain ⟨h1, h2⟩ := ha
  by_cases hn : a < 0
  · have e : IntKind.u64.wrap (-IntKind.u64.wrap a) = (a.natAbs : Int) := by rw [wrapU, wrapU]; omega
    go_enter Try.func64, Try.ntmps64
    go_wp2
    go_ret
    exact ⟨rfl, rfl⟩
  · have e : IntKind.u64.wrap a = (a.natAbs : Int) := by rw [wrapU]; omega
    go_enter Try.func64, Try.ntmps64
    go_wp2
    go_ret
    exact ⟨rfl, rfl⟩
theorem signed_any (q : Nat) (hq : q < 18446744073709551616) (neg : Bool) (w : World) :
    Calls Try.prog 66 #[.int .u64 q, .bool neg] w fun e w' => e = .returned (.tuple #[.int .i64 (qv (sg neg q)), .int .i64 (qe (sg neg q))]) ∧ w = w' := by
  cases neg
  · by_cases h : I64 (sg false q)
    · rw [qv_yes h, qe_yes h]
      rw [sg_fits_pos] at h
      have e : IntKind.i64.wrap (q : Int) = sg false q := by rw [IntKind.wrap_i64]; unfold sg; simp; omega
      have hB : decide ((9223372036854775807 : Int) < (q : Int)) = false := decide_eq_false (by omega)
      clear h
      go_enter Try.func66, Try.ntmps66
      go_wp2
      go_ret2
      exact ⟨rfl, rfl⟩
    · rw [qv_no h, qe_no h]
      rw [sg_fits_pos] at h
      have hB : decide ((9223372036854775807 : Int) < (q : Int)) = true := decide_eq_true (by omega)
      clear h
      go_enter Try.func66, Try.ntmps66
      go_wp2
      go_ret2
      exact ⟨rfl, rfl⟩
  · by_cases h : I64 (sg true q)
    · rw [qv_yes h, qe_yes h]
      rw [sg_fits_neg] at h
      have e : IntKind.i64.wrap (IntKind.u64.wrap (-(q : Int))) = sg true q := by rw [IntKind.wrap_i64, wrapU]; unfold sg; simp; omega
      have hB : decide ((9223372036854775808 : Int) < (q : Int)) = false := decide_eq_false (by omega)
      clear h
      go_enter Try.func66, Try.ntmps66
      go_wp2
      go_ret2
      exact ⟨rfl, rfl⟩
    · rw [qv_no h, qe_no h]
      rw [sg_fits_neg] at h
      have hB : decide ((9223372036854775808 : Int) < (q : Int)) = true := decide_eq_true (by omega)
      clear h
      go_enter Try.func66, Try.ntmps66
      go_wp2
      go_ret2
      exact ⟨rfl, rfl⟩
/-- As a caller spells the amount. -/
theorem signed_int (x : Int) (q : Nat) (hx : x = (q : Int)) (hq : q < 18446744073709551616) (neg : Bool) (w : World) :
    Calls Try.prog 66 #[.int .u64 x, .bool neg] w fun e w' => e = .returned (.tuple #[.int .i64 (qv (sg neg q)), .int .i64 (qe (sg neg q))]) ∧ w = w' := by
  subst hx
  exact signed_any q hq neg w
theorem muldiv_zero (a b : Int) (up : Bool) (w : World) :
    Calls Try.prog 57 #[.int .i64 a, .int .i64 b, .int .i64 0, .bool up] w fun e w' => e = .returned (.tuple #[.int .i64 0, .int .i64 22]) ∧ w = w' := by
  go_enter Try.func57, Try.ntmps57
  go_wp2
  go_ret2
  exact ⟨rfl, rfl⟩
theorem muldiv_any (a b y : Int) (up : Bool) (ha : I64 a) (hb : I64 b) (hy : I64 y) (w : World) :
    Calls Try.prog 57 #[.int .i64 a, .int .i64 b, .int .i64 y, .bool up] w fun e w' => e = .returned (.tuple #[.int .i64 (mv a b y up), .int .i64 (me a b y up)]) ∧ Dr w w' := by
  by_cases h0 : y = 0
  · subst h0
    exact (muldiv_zero a b up w).mono fun _ _ h => ⟨by rw [h.1]; rfl, by rw [h.2]; exact Dr.refl _⟩
  · have em : mv a b y up = qv (mq a b y up) ∧ me a b y up = qe (mq a b y up) := ⟨if_neg h0, if_neg h0⟩
    rw [em.1, em.2, mq_eq a b y up h0]
    clear em
    have hne : (y == 0) = false := by simpa using h0
    have nbE : (!((!(decide (a < 0) == decide (b < 0))) == decide (y < 0))) = nb a b y := rfl
    generalize nb a b y = neg at *
    have cA := fun w => size_any a ha w
    have cB := fun w => size_any b hb w
    have cY := fun w => size_any y hy w
    have lA := (abs_lt a ha).1
    have lB := (abs_lt b hb).1
    have lY := (abs_lt y hy).1
    have pY : 0 < y.natAbs := by omega
    generalize a.natAbs = A at *
    generalize b.natAbs = B at *
    generalize y.natAbs = Y at *
    have cM := fun w => mul64_any A B lA lB w
    have lH : A * B / 18446744073709551616 < 18446744073709551616 := by
      rw [Nat.div_lt_iff_lt_mul (by omega)]
      have := Nat.mul_le_mul (Nat.le_of_lt_succ lA) (Nat.le_of_lt_succ lB)
      omega
    have lL : A * B % 18446744073709551616 < 18446744073709551616 := Nat.mod_lt _ (by omega)
    have hov := over_early (A * B) Y neg (up != neg)
    have hqs := quot_small (A * B) Y
    have hdq := dq_whole (A * B) Y
    generalize A * B / 18446744073709551616 = H at *
    generalize A * B % 18446744073709551616 = L at *
    generalize A * B = N at *
    by_cases hov' : Y ≤ H
    · have hf := hov hov' pY
      rw [qv_no hf, qe_no hf]
      have hB : decide (Y ≤ H) = true := decide_eq_true hov'
      clear hf hov hqs hdq ha hb hy h0 hov'
      go_enter Try.func57, Try.ntmps57
      go_wp2_with fail
      refine (cA _).mono ?_
      rintro e w1 ⟨rfl, rfl⟩
      go_wp2_with fail
      refine (cB _).mono ?_
      rintro e w1 ⟨rfl, rfl⟩
      go_wp2_with fail
      refine (cM _).mono ?_
      rintro e w1 ⟨rfl, rfl⟩
      go_wp2_with fail
      refine (cY _).mono ?_
      rintro e w1 ⟨rfl, rfl⟩
      go_wp2
      go_ret2
      exact ⟨rfl, Dr.refl _⟩
    · have hB : decide (Y ≤ H) = false := decide_eq_false hov'
      have cD := fun w => div64_any H L Y (by omega) lL lY w
      have hQl := hqs (by omega)
      rw [hdq.1, hdq.2] at cD
      unfold qu
      generalize N / Y = Q at *
      generalize N % Y = R at *
      clear hov hqs hdq ha hb hy h0 hov'
      have ways : (decide (0 < R) = false ∧ (Q + if (up != neg && decide (0 < R)) = true then 1 else 0) = Q) ∨
          ((0 < R ∧ decide (0 < R) = true ∧ decide ((0 : Int) < (R : Int)) = true) ∧ (up = neg ∧ (Q + if (up != neg && decide (0 < R)) = true then 1 else 0) = Q)) ∨
          ((0 < R ∧ decide (0 < R) = true ∧ decide ((0 : Int) < (R : Int)) = true) ∧ (neg = !up) ∧ ((Q : Int) == 18446744073709551615) = false ∧ Q + 1 < 18446744073709551616 ∧ (Q + if (up != neg && decide (0 < R)) = true then 1 else 0) = Q + 1) ∨
          ((0 < R ∧ decide (0 < R) = true ∧ decide ((0 : Int) < (R : Int)) = true) ∧ (neg = !up) ∧ ((Q : Int) == 18446744073709551615) = true ∧ ¬ I64 (sg neg (Q + if (up != neg && decide (0 < R)) = true then 1 else 0))) := by
        by_cases hR : 0 < R
        · have hR' : decide ((0 : Int) < (R : Int)) = true := decide_eq_true (by omega)
          by_cases hu : up = neg
          · exact Or.inr (Or.inl ⟨⟨hR, decide_eq_true hR, hR'⟩, hu, by rw [hu]; simp⟩)
          · have hn : neg = !up := by revert hu; cases up <;> cases neg <;> simp
            have hc : (up != neg && decide (0 < R)) = true := by rw [hn]; simp [hR]
            by_cases hQ : Q = 18446744073709551615
            · refine Or.inr (Or.inr (Or.inr ⟨⟨hR, decide_eq_true hR, hR'⟩, hn, by rw [beq_iff_eq]; omega, ?_⟩))
              rw [if_pos hc]
              cases neg
              · rw [sg_fits_pos]; omega
              · rw [sg_fits_neg]; omega
            · refine Or.inr (Or.inr (Or.inl ⟨⟨hR, decide_eq_true hR, hR'⟩, hn, by rw [beq_eq_false_iff_ne]; omega, by omega, ?_⟩))
              rw [if_pos hc]
        · exact Or.inl ⟨decide_eq_false hR, by simp [hR]⟩
      rcases ways with ⟨k1, k2⟩ | ⟨⟨k0, k1, k1'⟩, k3, k2⟩ | ⟨⟨k0, k1, k1'⟩, k3, k4, k5, k2⟩ | ⟨⟨k0, k1, k1'⟩, k3, k4, k2⟩
      · rw [k2]
        clear k2
        go_enter Try.func57, Try.ntmps57
        go_wp2_with fail
        refine (cA _).mono ?_
        rintro e w1 ⟨rfl, rfl⟩
        go_wp2_with fail
        refine (cB _).mono ?_
        rintro e w1 ⟨rfl, rfl⟩
        go_wp2_with fail
        refine (cM _).mono ?_
        rintro e w1 ⟨rfl, rfl⟩
        go_wp2_with fail
        refine (cY _).mono ?_
        rintro e w1 ⟨rfl, rfl⟩
        go_wp2_with fail
        refine (cD _).mono ?_
        rintro e w2 ⟨rfl, hw2⟩
        go_wp2_with fail
        refine (signed_int _ Q rfl hQl neg _).mono ?_
        rintro e w3 ⟨rfl, rfl⟩
        go_wp2
        go_ret2
        exact ⟨rfl, hw2⟩
      · rw [k2]
        subst k3
        clear k2
        cases up
        all_goals
          go_enter Try.func57, Try.ntmps57
          go_wp2_with fail
          refine (cA _).mono ?_
          rintro e w1 ⟨rfl, rfl⟩
          go_wp2_with fail
          refine (cB _).mono ?_
          rintro e w1 ⟨rfl, rfl⟩
          go_wp2_with fail
          refine (cM _).mono ?_
          rintro e w1 ⟨rfl, rfl⟩
          go_wp2_with fail
          refine (cY _).mono ?_
          rintro e w1 ⟨rfl, rfl⟩
          go_wp2_with fail
          refine (cD _).mono ?_
          rintro e w2 ⟨rfl, hw2⟩
          go_wp2_with fail
          refine (signed_int _ Q rfl hQl _ _).mono ?_
          rintro e w3 ⟨rfl, rfl⟩
          go_wp2
          go_ret2
          exact ⟨rfl, hw2⟩
      · rw [k2]
        subst k3
        clear k2
        cases up
        all_goals
          go_enter Try.func57, Try.ntmps57
          go_wp2_with fail
          refine (cA _).mono ?_
          rintro e w1 ⟨rfl, rfl⟩
          go_wp2_with fail
          refine (cB _).mono ?_
          rintro e w1 ⟨rfl, rfl⟩
          go_wp2_with fail
          refine (cM _).mono ?_
          rintro e w1 ⟨rfl, rfl⟩
          go_wp2_with fail
          refine (cY _).mono ?_
          rintro e w1 ⟨rfl, rfl⟩
          go_wp2_with fail
          refine (cD _).mono ?_
          rintro e w2 ⟨rfl, hw2⟩
          go_wp2_with fail
          refine (signed_int _ (Q + 1) (by omega) k5 _ _).mono ?_
          rintro e w3 ⟨rfl, rfl⟩
          go_wp2
          go_ret2
          exact ⟨rfl, hw2⟩
      · rw [qv_no k2, qe_no k2]
        subst k3
        clear k2
        cases up
        all_goals
          go_enter Try.func57, Try.ntmps57
          go_wp2_with fail
          refine (cA _).mono ?_
          rintro e w1 ⟨rfl, rfl⟩
          go_wp2_with fail
          refine (cB _).mono ?_
          rintro e w1 ⟨rfl, rfl⟩
          go_wp2_with fail
          refine (cM _).mono ?_
          rintro e w1 ⟨rfl, rfl⟩
          go_wp2_with fail
          refine (cY _).mono ?_
          rintro e w1 ⟨rfl, rfl⟩
          go_wp2_with fail
          refine (cD _).mono ?_
          rintro e w2 ⟨rfl, hw2⟩
          go_wp2
          go_ret2
          exact ⟨rfl, hw2⟩
end Go.Proofs.Ytglniapfnhedoaa

namespace Go.Proofs.Ytglniapfnhedoaa
open Go.RowKit
/-- Its sides are bounded. -/
def boundS (s : Sec) : Bool := inB s.a0 0 20000 && inB s.b0 0 20000 && inB s.a1 0 20000 && inB s.b1 0 20000
def sideNo (s : Sec) (k : Nat) : Int := [s.a0, s.b0, s.a1, s.b1].getD k 0
theorem inB_ways (x : Int) : (inB x 0 20000 = true ∧ decide (x < 0) = false ∧ decide (20000 < x) = false) ∨ (inB x 0 20000 = false ∧ decide (x < 0) = true) ∨ (inB x 0 20000 = false ∧ decide (x < 0) = false ∧ decide (20000 < x) = true) := by
  unfold inB
  by_cases h1 : x < 0
  · exact .inr (.inl ⟨by simp; omega, decide_eq_true h1⟩)
  · by_cases h2 : 20000 < x
    · exact .inr (.inr ⟨by simp; omega, decide_eq_false h1, decide_eq_true h2⟩)
    · exact .inl ⟨by simp; omega, decide_eq_false h1, decide_eq_false h2⟩
theorem boundS_no (s : Sec) (k : Nat) (hk : k < 4) (h : inB (sideNo s k) 0 20000 = false) : boundS s = false := by
  unfold boundS
  match k, hk with
  | 0, _ => have h' : inB s.a0 0 20000 = false := h; rw [h']; simp
  | 1, _ => have h' : inB s.b0 0 20000 = false := h; rw [h']; simp
  | 2, _ => have h' : inB s.a1 0 20000 = false := h; rw [h']; simp
  | 3, _ => have h' : inB s.b1 0 20000 = false := h; rw [h']; simp
theorem boundS_yes (s : Sec) (h : ∀ j, j < 4 → inB (sideNo s j) 0 20000 = true) : boundS s = true := by
  unfold boundS
  have h0 : inB s.a0 0 20000 = true := h 0 (by omega)
  have h1 : inB s.b0 0 20000 = true := h 1 (by omega)
  have h2 : inB s.a1 0 20000 = true := h 2 (by omega)
  have h3 : inB s.b1 0 20000 = true := h 3 (by omega)
  rw [h0, h1, h2, h3]; rfl
/-- A place of an array of four numbers. -/
theorem arr4_get (x : Nat → Int) (k : Nat) (hk : k < 4) (w : World) : (Instr.index 78 (Value.agg #[.int .i64 (x 0), .int .i64 (x 1), .int .i64 (x 2), .int .i64 (x 3)]) (Value.int .i64 (k : Int))).run Try.prog w = .ok (.int .i64 (x k)) w := by
  have hu : Try.prog.underlying 78 = some (.array 4 2) := by kernel_rfl
  match k, hk with
  | 0, _ => simp [Instr.index, run_underlying hu, asIntOf, part, go_sem]
  | 1, _ => simp [Instr.index, run_underlying hu, asIntOf, part, go_sem]
  | 2, _ => simp [Instr.index, run_underlying hu, asIntOf, part, go_sem]
  | 3, _ => simp [Instr.index, run_underlying hu, asIntOf, part, go_sem]
set_option maxHeartbeats 1000000 in
theorem bounded_any (r : Bool) (h a0 b0 a1 b1 : Int) (w : World) :
    Calls Try.prog 50 #[.agg #[.bool r, .int .i64 h, .int .i64 a0, .int .i64 b0, .int .i64 a1, .int .i64 b1]] w fun e w' => e = .returned (.bool (boundS ⟨r, h, a0, b0, a1, b1⟩)) ∧ Q w w' := by
  have hno := boundS_no ⟨r, h, a0, b0, a1, b1⟩
  have hyes := boundS_yes ⟨r, h, a0, b0, a1, b1⟩
  have hg := fun k hk w => arr4_get (sideNo ⟨r, h, a0, b0, a1, b1⟩) k hk w
  change ∀ k : Nat, k < 4 → ∀ w : World, (Instr.index 78 (Value.agg #[.int .i64 a0, .int .i64 b0, .int .i64 a1, .int .i64 b1]) (Value.int .i64 (k : Int))).run Try.prog w = .ok (.int .i64 (sideNo ⟨r, h, a0, b0, a1, b1⟩ k)) w at hg
  generalize hB : boundS ⟨r, h, a0, b0, a1, b1⟩ = B0 at *
  clear hB
  go_enter Try.func50, Try.ntmps50
  go_wp2
  have hq := (Q.refl w).alloc #[.bool r, .int .i64 h, .int .i64 a0, .int .i64 b0, .int .i64 a1, .int .i64 b1] 49
  generalize w.alloc _ = W1 at *
  go_loop [14] (fun i => ∃ k : Nat, k ≤ 4 ∧ i = .int .i64 k ∧ ∀ j, j < k → inB (sideNo ⟨r, h, a0, b0, a1, b1⟩ j) 0 20000 = true) (fun i => 4 - (intOf i).toNat)
  case atStart => exact ⟨0, Nat.zero_le _, rfl, fun j hj => absurd hj (by omega)⟩
  case round =>
    obtain ⟨k, hk, rfl, hall⟩ := hrel
    by_cases hl : k < 4
    · have hlB : decide ((k : Int) < 4) = true := decide_eq_true (by omega)
      have ho := hno k hl
      have hx := hg k hl
      have hw := inB_ways (sideNo ⟨r, h, a0, b0, a1, b1⟩ k)
      have hn : inB (sideNo ⟨r, h, a0, b0, a1, b1⟩ k) 0 20000 = true → ∀ j, j < k + 1 → inB (sideNo ⟨r, h, a0, b0, a1, b1⟩ j) 0 20000 = true := fun hk j hj => by
        by_cases e : j = k
        · rw [e]; exact hk
        · exact hall j (by omega)
      clear hall hno hyes hg
      rcases hw with ⟨e0, e1, e2⟩ | ⟨e0, e1⟩ | ⟨e0, e1, e2⟩
      · have HN := Lib.hid (hn e0)
        clear hn ho
        go_wp2
        go_round
        case rel => exact ⟨k + 1, by omega, by go_num, HN.out⟩
        case measure => simp [intOf]; omega
      · have HO := Lib.hid (ho e0)
        clear hn ho
        go_wp2
        go_ret
        exact ⟨by rw [HO.out]; rfl, hq⟩
      · have HO := Lib.hid (ho e0)
        clear hn ho
        go_wp2
        go_ret
        exact ⟨by rw [HO.out]; rfl, hq⟩
    · have hlB : decide ((k : Int) < 4) = false := decide_eq_false (by omega)
      obtain rfl : k = 4 := by omega
      have HY := Lib.hid (hyes hall)
      clear hno hyes hg hall
      go_wp2
      go_ret
      exact ⟨by rw [HY.out]; rfl, hq⟩
end Go.Proofs.Ytglniapfnhedoaa

namespace Go.Proofs.Ytglniapfnhedoaa
open Go.RowKit
/-- The code's Side does what the document says. -/
def SideC : Prop := ∀ (r : Bool) (h a0 b0 a1 b1 at_ : Int) (up : Bool) (w : World), Sec.I ⟨r, h, a0, b0, a1, b1⟩ → I64 at_ →
  Calls Try.prog 51 #[.agg #[.bool r, .int .i64 h, .int .i64 a0, .int .i64 b0, .int .i64 a1, .int .i64 b1], .int .i64 at_, .bool up] w fun e w' =>
    e = .returned (.tuple #[.int .i64 (sideOf ⟨r, h, a0, b0, a1, b1⟩ at_ up).1, .int .i64 (sideOf ⟨r, h, a0, b0, a1, b1⟩ at_ up).2]) ∧ B w w'
theorem between_any (x0 x1 at_ h : Int) (up : Bool) (a0 : 0 ≤ x0) (b0 : x0 ≤ 20000) (a1 : 0 ≤ x1) (b1 : x1 ≤ 20000) (h0 : 0 ≤ at_) (h1 : at_ ≤ h) (hh : 1 ≤ h) (hI : I64 h) (w : World) :
    Calls Try.prog 56 #[.int .i64 x0, .int .i64 x1, .int .i64 at_, .int .i64 h, .bool up] w fun e w' => e = .returned (.int .i64 (sideM x0 x1 at_ h up)) ∧ Q w w' := by
  obtain ⟨f1, f2, f3, f4⟩ := side_fits a0 b0 a1 b1 h0 h1 hh up
  have c := fun w => muldiv_any (x1 - x0) at_ h up (by unfold I64; omega) (by unfold I64 at *; omega) hI w
  have e1 : IntKind.i64.wrap (x1 - x0) = x1 - x0 := wrapI (by omega) (by omega)
  unfold sideM at *
  generalize mv (x1 - x0) at_ h up = g at *
  generalize me (x1 - x0) at_ h up = g' at *
  have e2 : IntKind.i64.wrap (x0 + g) = x0 + g := wrapI (by omega) (by omega)
  clear f1 f2 f3 f4
  go_enter Try.func56, Try.ntmps56
  go_wp2_with fail
  refine (c _).mono ?_
  rintro e w1 ⟨rfl, h⟩
  go_wp2
  go_ret
  exact ⟨rfl, h.q⟩
set_option maxHeartbeats 2000000 in
theorem side_code : SideC := by
  intro r h a0 b0 a1 b1 at_ up w hI hat
  obtain ⟨i1, i2, i3, i4, i5⟩ := hI
  simp only at i1 i2 i3 i4 i5
  have cB := fun w => bounded_any r h a0 b0 a1 b1 w
  by_cases hh : h < 1
  · have hB : decide (h < 1) = true := decide_eq_true hh
    have e : sideOf ⟨r, h, a0, b0, a1, b1⟩ at_ up = (0, 0) := if_neg (fun x => by have := x.1; simp only at this; omega)
    rw [e]
    go_enter Try.func51, Try.ntmps51
    go_wp2
    go_ret2
    exact ⟨rfl, ((Q.refl w).alloc _ _).b⟩
  have hB : decide (h < 1) = false := decide_eq_false hh
  by_cases hb : boundS ⟨r, h, a0, b0, a1, b1⟩ = true
  · rw [hb] at cB
    unfold boundS at hb
    simp only [Bool.and_eq_true] at hb
    obtain ⟨⟨⟨q1, q2⟩, q3⟩, q4⟩ := hb
    have e : sideOf ⟨r, h, a0, b0, a1, b1⟩ at_ up = (sideM a0 a1 (min (max at_ 0) h) h up, if r then 0 else sideM b0 b1 (min (max at_ 0) h) h up) := if_pos ⟨by simp only; omega, q1, q3, q2, q4⟩
    rw [e]
    clear e
    unfold inB at q1 q2 q3 q4
    simp only [Bool.and_eq_true, decide_eq_true_eq] at q1 q2 q3 q4
    obtain ⟨p, hp⟩ : ∃ p, max at_ 0 = p := ⟨_, rfl⟩
    obtain ⟨q, hq⟩ : ∃ q, min p h = q := ⟨_, rfl⟩
    rw [hp, hq]
    have c1 := fun w => between_any a0 a1 q h up q1.1 q1.2 q3.1 q3.2 (by omega) (by omega) (by omega) i1 w
    have c2 := fun w => between_any b0 b1 q h up q2.1 q2.2 q4.1 q4.2 (by omega) (by omega) (by omega) i1 w
    clear q1 q2 q3 q4 i1 i2 i3 i4 i5 hat hh
    cases r
    · go_enter Try.func51, Try.ntmps51
      go_wp2_with fail
      refine (cB _).mono ?_
      rintro e w1 ⟨rfl, g⟩
      have z0 := g.keep (p := ⟨w.heap.size, 0, none⟩) (v := .bool false) (by simp [go_sem])
      have z1 := g.keep (p := ⟨w.heap.size, 1, none⟩) (v := .int .i64 h) (by simp [go_sem])
      have z2 := g.keep (p := ⟨w.heap.size, 2, none⟩) (v := .int .i64 a0) (by simp [go_sem])
      have z3 := g.keep (p := ⟨w.heap.size, 3, none⟩) (v := .int .i64 b0) (by simp [go_sem])
      have z4 := g.keep (p := ⟨w.heap.size, 4, none⟩) (v := .int .i64 a1) (by simp [go_sem])
      have z5 := g.keep (p := ⟨w.heap.size, 5, none⟩) (v := .int .i64 b1) (by simp [go_sem])
      replace g := ((Q.refl w).alloc _ _).trans g
      go_wp2_with fail
      refine (c1 _).mono ?_
      rintro e w2 ⟨rfl, g2⟩
      replace z0 := g2.keep z0
      replace z1 := g2.keep z1
      replace z2 := g2.keep z2
      replace z3 := g2.keep z3
      replace z4 := g2.keep z4
      replace z5 := g2.keep z5
      replace g := g.trans g2
      clear g2
      go_wp2_with fail
      refine (c2 _).mono ?_
      rintro e w3 ⟨rfl, g2⟩
      replace g := g.trans g2
      clear g2
      go_wp2
      go_ret2
      exact ⟨by simp, g.b⟩
    · go_enter Try.func51, Try.ntmps51
      go_wp2_with fail
      refine (cB _).mono ?_
      rintro e w1 ⟨rfl, g⟩
      have z0 := g.keep (p := ⟨w.heap.size, 0, none⟩) (v := .bool true) (by simp [go_sem])
      have z1 := g.keep (p := ⟨w.heap.size, 1, none⟩) (v := .int .i64 h) (by simp [go_sem])
      have z2 := g.keep (p := ⟨w.heap.size, 2, none⟩) (v := .int .i64 a0) (by simp [go_sem])
      have z3 := g.keep (p := ⟨w.heap.size, 3, none⟩) (v := .int .i64 b0) (by simp [go_sem])
      have z4 := g.keep (p := ⟨w.heap.size, 4, none⟩) (v := .int .i64 a1) (by simp [go_sem])
      have z5 := g.keep (p := ⟨w.heap.size, 5, none⟩) (v := .int .i64 b1) (by simp [go_sem])
      replace g := ((Q.refl w).alloc _ _).trans g
      go_wp2_with fail
      refine (c1 _).mono ?_
      rintro e w2 ⟨rfl, g2⟩
      replace z0 := g2.keep z0
      replace z1 := g2.keep z1
      replace z2 := g2.keep z2
      replace z3 := g2.keep z3
      replace z4 := g2.keep z4
      replace z5 := g2.keep z5
      replace g := g.trans g2
      clear g2
      go_wp2
      go_ret2
      exact ⟨by simp, g.b⟩
  · have e : sideOf ⟨r, h, a0, b0, a1, b1⟩ at_ up = (0, 0) := if_neg (fun x => hb (by unfold boundS; simp [x.2.1, x.2.2.1, x.2.2.2.1, x.2.2.2.2]))
    have eb : boundS ⟨r, h, a0, b0, a1, b1⟩ = false := by simpa using hb
    rw [e]
    rw [eb] at cB
    clear hb e eb
    go_enter Try.func51, Try.ntmps51
    go_wp2_with fail
    refine (cB _).mono ?_
    rintro e w1 ⟨rfl, g⟩
    replace g := ((Q.refl w).alloc _ _).trans g
    go_wp2
    go_ret2
    exact ⟨rfl, g.b⟩
end Go.Proofs.Ytglniapfnhedoaa

namespace Go.Proofs.Ytglniapfnhedoaa
open Go.RowKit
theorem in_any (v a b : Int) (w : World) :
    Calls Try.prog 37 #[.int .i64 v, .int .i64 a, .int .i64 b] w fun e w' => e = .returned (.bool (inB v a b)) ∧ w = w' := by
  unfold inB
  have hb : decide (a ≤ v) = true ∨ decide (a ≤ v) = false := by cases decide (a ≤ v) <;> simp
  rcases hb with hb | hb
  all_goals
    rw [hb]
    go_enter Try.func37, Try.ntmps37
    go_wp2
    go_ret
    exact ⟨rfl, rfl⟩
set_option maxRecDepth 100000 in
set_option maxHeartbeats 2000000 in
theorem r3right_row (a : Addr) (cap : Nat) (l : List Sec) (h2 : l.length ≤ cap) (h3 : cap ≤ maxLen) (w : World) (h4 : ∀ i s, l[i]? = some s → s.I ∧ SecAt w (a.add (i * 6)) s) :
    Calls Try.prog 19 #[.slice (some a) l.length cap] w fun e w' => e = .returned (.bool (rightS l)) ∧ Q w w' := by
  unfold maxLen at h3
  have h5 : l.length ≤ 2 ^ 63 - 1 := Nat.le_trans h2 h3
  clear h2 h3
  by_cases n1 : l.length < 1
  · rw [rightS_short l n1]
    have n1B : decide ((l.length : Int) < 1) = true := decide_eq_true (by omega)
    clear h4
    go_enter Try.func19, Try.ntmps19
    go_wp2
    go_ret
    exact ⟨rfl, Q.refl w⟩
  have n1B : decide ((l.length : Int) < 1) = false := decide_eq_false (by omega)
  by_cases n2 : 4 < l.length
  · rw [rightS_long l n2]
    have n2B : decide ((4 : Int) < (l.length : Int)) = true := decide_eq_true (by omega)
    clear h4
    go_enter Try.func19, Try.ntmps19
    go_wp2
    go_ret
    exact ⟨rfl, Q.refl w⟩
  have n2B : decide ((4 : Int) < (l.length : Int)) = false := decide_eq_false (by omega)
  go_enter Try.func19, Try.ntmps19
  go_wp2
  go_loopw [3, 4] (fun hh i wr => ∃ (k : Nat), k ≤ l.length ∧ i = .int .i64 k ∧ hh = .int .i64 (hsumI l k) ∧ okTo l k = true ∧ Q w wr) (fun _ i _ => l.length - (intOf i).toNat)
  case atStart => exact ⟨0, Nat.zero_le _, rfl, rfl, rfl, Q.refl w⟩
  case round =>
    obtain ⟨k, hk, rfl, rfl, hok, hq⟩ := hrel
    obtain ⟨t1, t2⟩ := hsum_small l k hok
    have t3 : hsumI l k ≤ 240000 := by omega
    clear t2
    by_cases hl : k < l.length
    · have hlB : decide (k < l.length) = true := decide_eq_true hl
      have hg := List.getElem?_eq_getElem hl
      have hs := (h4 k _ hg).2.keep hq
      have hsu := hsumI_succ l k _ hg
      have hoku := okTo_succ l k _ hg hok
      have hbad := rightS_bad l k _ hg
      clear h4
      generalize l[k] = s at *
      generalize hsumI l k = t at *
      obtain ⟨f0, f1, f2, f3, f4, f5⟩ := hs
      obtain ⟨m, hm1⟩ : ∃ m, s.h.tmod 100 = m := ⟨_, rfl⟩
      have hsec := secOk_eq s m hm1
      have HS := Lib.hid hsu
      have HM := Lib.hid hg
      clear hsu hg
      have c1 := fun w => in_any s.a0 0 20000 w
      have c2 := fun w => in_any s.a1 1 20000 w
      have c3 := fun w => in_any s.b0 0 20000 w
      have c4 := fun w => in_any s.b1 1 20000 w
      have k1 : decide (s.h < 1) = true ∨ decide (s.h < 1) = false := by cases decide (s.h < 1) <;> simp
      rcases k1 with k1 | k1
      · have HB := Lib.hid (hbad (by rw [hsec]; simp [k1]))
        clear hbad hsec hoku
        go_wp2
        go_ret
        exact ⟨by rw [HB.out]; rfl, hq.alloc _ _⟩
      · have k2 : decide (60000 < s.h) = true ∨ decide (60000 < s.h) = false := by cases decide (60000 < s.h) <;> simp
        rcases k2 with k2 | k2
        · have HB := Lib.hid (hbad (by rw [hsec]; simp [k1, k2]))
          clear hbad hsec hoku
          go_wp2
          go_ret
          exact ⟨by rw [HB.out]; rfl, hq.alloc _ _⟩
        · have k3 : (m != 0) = true ∨ (m != 0) = false := by cases (m != 0) <;> simp
          rcases k3 with k3 | k3
          · have HB := Lib.hid (hbad (by rw [hsec]; simp [k1, k2, k3]))
            clear hbad hsec hoku
            go_wp2
            go_ret
            exact ⟨by rw [HB.out]; rfl, hq.alloc _ _⟩
          · have k4 : inB s.a0 0 20000 = true ∨ inB s.a0 0 20000 = false := by cases inB s.a0 0 20000 <;> simp
            rcases k4 with k4 | k4
            · rw [k4] at c1
              have k5 : inB s.a1 1 20000 = true ∨ inB s.a1 1 20000 = false := by cases inB s.a1 1 20000 <;> simp
              rcases k5 with k5 | k5
              · rw [k5] at c2
                have k6 : s.r = true ∨ s.r = false := by cases s.r <;> simp
                rcases k6 with k6 | k6
                · have k7 : (s.b0 != 0) = true ∨ (s.b0 != 0) = false := by cases (s.b0 != 0) <;> simp
                  rcases k7 with k7 | k7
                  · have HB := Lib.hid (hbad (by rw [hsec]; simp [k1, k2, k3, k4, k5, k6, k7]))
                    clear hbad hsec hoku
                    go_wp2_with fail
                    refine (c1 _).mono ?_
                    rintro e w1 ⟨rfl, rfl⟩
                    go_wp2_with fail
                    refine (c2 _).mono ?_
                    rintro e w1 ⟨rfl, rfl⟩
                    go_wp2
                    go_ret
                    exact ⟨by rw [HB.out]; rfl, hq.alloc _ _⟩
                  · have k8 : (s.b1 != 0) = true ∨ (s.b1 != 0) = false := by cases (s.b1 != 0) <;> simp
                    rcases k8 with k8 | k8
                    · have HB := Lib.hid (hbad (by rw [hsec]; simp [k1, k2, k3, k4, k5, k6, k7, k8]))
                      clear hbad hsec hoku
                      go_wp2_with fail
                      refine (c1 _).mono ?_
                      rintro e w1 ⟨rfl, rfl⟩
                      go_wp2_with fail
                      refine (c2 _).mono ?_
                      rintro e w1 ⟨rfl, rfl⟩
                      go_wp2
                      go_ret
                      exact ⟨by rw [HB.out]; rfl, hq.alloc _ _⟩
                    · replace hoku := hoku (by rw [hsec]; simp [k1, k2, k3, k4, k5, k6, k7, k8])
                      obtain ⟨z1, z2⟩ := secOk_h s (by rw [hsec]; simp [k1, k2, k3, k4, k5, k6, k7, k8])
                      clear hbad hsec
                      have HO := Lib.hid hoku
                      clear hoku
                      go_wp2_with fail
                      refine (c1 _).mono ?_
                      rintro e w1 ⟨rfl, rfl⟩
                      go_wp2_with fail
                      refine (c2 _).mono ?_
                      rintro e w1 ⟨rfl, rfl⟩
                      go_wp2
                      go_roundw
                      case rel => exact ⟨k + 1, by omega, by go_num, by rw [HS.out], HO.out, hq.alloc _ _⟩
                      case measure => simp [intOf]; omega
                · have k9 : inB s.b0 0 20000 = true ∨ inB s.b0 0 20000 = false := by cases inB s.b0 0 20000 <;> simp
                  rcases k9 with k9 | k9
                  · rw [k9] at c3
                    have ka : inB s.b1 1 20000 = true ∨ inB s.b1 1 20000 = false := by cases inB s.b1 1 20000 <;> simp
                    rcases ka with ka | ka
                    · rw [ka] at c4
                      replace hoku := hoku (by rw [hsec]; simp [k1, k2, k3, k4, k5, k6, k9, ka])
                      obtain ⟨z1, z2⟩ := secOk_h s (by rw [hsec]; simp [k1, k2, k3, k4, k5, k6, k9, ka])
                      clear hbad hsec
                      have HO := Lib.hid hoku
                      clear hoku
                      go_wp2_with fail
                      refine (c1 _).mono ?_
                      rintro e w1 ⟨rfl, rfl⟩
                      go_wp2_with fail
                      refine (c2 _).mono ?_
                      rintro e w1 ⟨rfl, rfl⟩
                      go_wp2_with fail
                      refine (c3 _).mono ?_
                      rintro e w1 ⟨rfl, rfl⟩
                      go_wp2_with fail
                      refine (c4 _).mono ?_
                      rintro e w1 ⟨rfl, rfl⟩
                      go_wp2
                      go_roundw
                      case rel => exact ⟨k + 1, by omega, by go_num, by rw [HS.out], HO.out, hq.alloc _ _⟩
                      case measure => simp [intOf]; omega
                    · rw [ka] at c4
                      have HB := Lib.hid (hbad (by rw [hsec]; simp [k1, k2, k3, k4, k5, k6, k9, ka]))
                      clear hbad hsec hoku
                      go_wp2_with fail
                      refine (c1 _).mono ?_
                      rintro e w1 ⟨rfl, rfl⟩
                      go_wp2_with fail
                      refine (c2 _).mono ?_
                      rintro e w1 ⟨rfl, rfl⟩
                      go_wp2_with fail
                      refine (c3 _).mono ?_
                      rintro e w1 ⟨rfl, rfl⟩
                      go_wp2_with fail
                      refine (c4 _).mono ?_
                      rintro e w1 ⟨rfl, rfl⟩
                      go_wp2
                      go_ret
                      exact ⟨by rw [HB.out]; rfl, hq.alloc _ _⟩
                  · rw [k9] at c3
                    have HB := Lib.hid (hbad (by rw [hsec]; simp [k1, k2, k3, k4, k5, k6, k9]))
                    clear hbad hsec hoku
                    go_wp2_with fail
                    refine (c1 _).mono ?_
                    rintro e w1 ⟨rfl, rfl⟩
                    go_wp2_with fail
                    refine (c2 _).mono ?_
                    rintro e w1 ⟨rfl, rfl⟩
                    go_wp2_with fail
                    refine (c3 _).mono ?_
                    rintro e w1 ⟨rfl, rfl⟩
                    go_wp2
                    go_ret
                    exact ⟨by rw [HB.out]; rfl, hq.alloc _ _⟩
              · rw [k5] at c2
                have HB := Lib.hid (hbad (by rw [hsec]; simp [k1, k2, k3, k4, k5]))
                clear hbad hsec hoku
                go_wp2_with fail
                refine (c1 _).mono ?_
                rintro e w1 ⟨rfl, rfl⟩
                go_wp2_with fail
                refine (c2 _).mono ?_
                rintro e w1 ⟨rfl, rfl⟩
                go_wp2
                go_ret
                exact ⟨by rw [HB.out]; rfl, hq.alloc _ _⟩
            · rw [k4] at c1
              have HB := Lib.hid (hbad (by rw [hsec]; simp [k1, k2, k3, k4]))
              clear hbad hsec hoku
              go_wp2_with fail
              refine (c1 _).mono ?_
              rintro e w1 ⟨rfl, rfl⟩
              go_wp2
              go_ret
              exact ⟨by rw [HB.out]; rfl, hq.alloc _ _⟩
    · have hlB : decide (k < l.length) = false := decide_eq_false hl
      obtain rfl : k = l.length := by omega
      have HE := Lib.hid (rightS_end l (by omega) (by omega) hok)
      clear h4 hok
      go_wp2
      go_ret
      exact ⟨by rw [HE.out]; rfl, hq⟩
theorem r3right_any (v : Value) (l : List Sec) (w : World) (hv : IsSecs w v l) :
    Calls Try.prog 19 #[v] w fun e w' => e = .returned (.bool (rightS l)) ∧ Q w w' := by
  rcases hv with ⟨rfl, rfl⟩ | ⟨a, cap, rfl, h2, h3, h4⟩
  · rw [rightS_short [] (by simp)]
    go_enter Try.func19, Try.ntmps19
    go_wp2
    go_ret
    exact ⟨rfl, Q.refl w⟩
  · exact r3right_row a cap l h2 h3 w h4
end Go.Proofs.Ytglniapfnhedoaa
