/-
  What becomes of the world in a call that turns nothing that was there: new blocks, draws; What lies in blocks that are known: it stays while these do. No program is named here; Plain mathematics of layer 1: what fits 64 bits; signs of bits. No program is named here; Slices of sections: how they lie in memory. No program is named here; Plain facts of sections that may be. No program is named here; Plain mathematics of a division of 128 bits by 64: one digit at a time (base 2^32). No program is named here; Plain mathematics of tables: areas, bounds of slices, their sums, what lies between. No program is named here; How tables lie in memory; a row that a struct's field holds and that grows. No program is named here; Two rows of sums that a struct's fields hold and that grow, one behind the other: from no row on. No program is named here; The code's tables lie in blocks that are known. No program is named here; What becomes of the world where blocks of known numbers may turn. No program is named here; Names: which strings are. No program is named here; Words of bytes: which lines of words any bytes are, or the first byte that is none. No program is named here; Bytes, words, lines of words in memory. No program is named here; Rows of numbers in the call's own memory; strokes of a part; Regions that draw their order: one order is walked, its right is reckoned once by masks of bits. No program is named here; Regions that draw their order, walked in no order at all: of each operation it is said what its slot holds behind it (V), whatever came up before; what is said outlasts all that the others do. The tail comes up in one order. No program is named here; Wares and tips in memory: a name, three numbers, a shape. No program is named here; Decks as texts: which may be, how they are said, how lines of words are read. No program is named here; Layer 16's document: a number in parts, a part in strokes. No program is named here; The block of an own row that is not empty. No program is named here; The statements' shapes, plainly; Sections in memory that a call owns: facts for walks.
-/
import Derived.WalkKit
import Derived.Laws.Bits64b
import Derived.Test.YtiblhebenhiijaaChecked
import Derived.OwnWalk
import Derived.Laws.OwnMore
import Derived.Deep.AppendLies
import Derived.RowKit3
import Derived.Lib.Hide
import Derived.Lib.BitFns
import Derived.KernelRfl
import Derived.Laws.BytesArg
import Derived.Maps.OwnSet
import Derived.Deep.Draws
import Derived.Deep.RegionHeld3
import Derived.Lib.ItoaMem
import Derived.Lib.Strings
namespace Go.Proofs.Ytiblhebenhiijaa
open Go.RowKit
/-- The world behind is the one before, but for draws. -/
def Dr (w w' : World) : Prop := ∃ n, w' = w.drewN n
theorem Dr.refl (w : World) : Dr w w := ⟨0, rfl⟩
theorem Dr.trans {a b c : World} (h : Dr a b) (k : Dr b c) : Dr a c := by
  obtain ⟨n, rfl⟩ := h
  obtain ⟨m, rfl⟩ := k
  exact ⟨n + m, World.drewN_drewN _ _ _⟩
/-- New blocks and draws: of what was there nothing turns, and no mark. -/
structure Q (w w' : World) : Prop where
  below : Below w.heap.size w w'
  marks : ∀ a, w'.frozen? a = w.frozen? a
theorem Q.refl (w : World) : Q w w := ⟨Below.refl _ _, fun _ => rfl⟩
theorem Q.trans {a b c : World} (h : Q a b) (k : Q b c) : Q a c :=
  ⟨h.below.trans (k.below.mono h.below.size), fun x => (k.marks x).trans (h.marks x)⟩
theorem Q.drew {a w : World} (h : Q a w) : Q a w.drew := ⟨h.below.drew, h.marks⟩
theorem Q.drewN {a w : World} (h : Q a w) (n : Nat) : Q a (w.drewN n) := ⟨⟨h.below.os, h.below.tape, h.below.output, h.below.size, h.below.block⟩, h.marks⟩
theorem Q.dr {a b c : World} (h : Q a b) (k : Dr b c) : Q a c := by obtain ⟨n, rfl⟩ := k; exact h.drewN n
theorem Dr.q {a b : World} (k : Dr a b) : Q a b := (Q.refl a).dr k
theorem Q.grown {a w : World} (h : Q a w) : Grown a w := ⟨h.below.frame _, h.marks, h.below.size⟩
theorem Q.alloc {a w : World} (h : Q a w) (c : Array Value) (t : TypeId) : Q a (w.alloc (.cells c t)) :=
  ⟨h.below.alloc h.below.size _, fun x => ((Grown.refl w).alloc c t).2.1 x |>.trans (h.marks x)⟩
theorem Q.setCell {a w : World} (h : Q a w) {p : Addr} (hp : a.heap.size ≤ p.block) (v : Value) : Q a (w.setCell p v) :=
  ⟨h.below.setCell hp v, fun x => (World.frozen?_setCell _ _ _ _).trans (h.marks x)⟩
/-- What a cell holds stays. -/
theorem Q.keep {w w' : World} (h : Q w w') {p : Addr} {v : Value} (hc : w.cell? p = some v) : w'.cell? p = some v := by
  rw [h.below.cell (World.block_lt_of_cell? w p hc)]; exact hc
/-- Of what was there nothing turns. (Weaker than Q: it serves behind an append.) -/
structure B (w w' : World) : Prop where
  below : Below w.heap.size w w'
theorem Q.b {w w' : World} (h : Q w w') : B w w' := ⟨h.below⟩
theorem B.refl (w : World) : B w w := ⟨Below.refl _ _⟩
theorem B.trans {a b c : World} (h : B a b) (k : B b c) : B a c := ⟨h.below.trans (k.below.mono h.below.size)⟩
theorem B.drew {a w : World} (h : B a w) : B a w.drew := ⟨h.below.drew⟩
theorem B.drewN {a w : World} (h : B a w) (n : Nat) : B a (w.drewN n) := ⟨⟨h.below.os, h.below.tape, h.below.output, h.below.size, h.below.block⟩⟩
theorem B.alloc {a w : World} (h : B a w) (c : Array Value) (t : TypeId) : B a (w.alloc (.cells c t)) := ⟨h.below.alloc h.below.size _⟩
theorem B.setCell {a w : World} (h : B a w) {p : Addr} (hp : a.heap.size ≤ p.block) (v : Value) : B a (w.setCell p v) := ⟨h.below.setCell hp v⟩
theorem B.keep {w w' : World} (h : B w w') {p : Addr} {v : Value} (hc : w.cell? p = some v) : w'.cell? p = some v := by
  rw [h.below.cell (World.block_lt_of_cell? w p hc)]; exact hc
theorem B.grownBy {a w w' : World} {row : Option Nat} (h : B a w) (g : w.grownBy w' row) (hr : ∀ k, row = some k → a.heap.size ≤ k) : B a w' :=
  ⟨⟨g.os.trans h.below.os, g.tape.trans h.below.tape, g.output.trans h.below.output, Nat.le_trans h.below.size g.size, fun k hk => by
    rw [g.block k (Nat.lt_of_lt_of_le hk h.below.size) (fun e => by have := hr k e.symm; omega)]
    exact h.below.block k hk⟩⟩
end Go.Proofs.Ytiblhebenhiijaa

namespace Go.Proofs.Ytiblhebenhiijaa
open Go.RowKit
/-- T holds of a world, and of each that has the same blocks from lo up to hi. -/
structure Held (T : World → Prop) (lo hi : Nat) (w : World) : Prop where
  now : T w
  le : hi ≤ w.heap.size
  any : ∀ w', (∀ i, lo ≤ i → i < hi → w'.heap[i]? = w.heap[i]?) → T w'
theorem Held.on {T : World → Prop} {lo hi : Nat} {w w' : World} (h : Held T lo hi w) (hs : w.heap.size ≤ w'.heap.size) (hb : ∀ i, lo ≤ i → i < hi → w'.heap[i]? = w.heap[i]?) : Held T lo hi w' :=
  ⟨h.any w' hb, Nat.le_trans h.le hs, fun w2 h2 => h.any w2 fun i h3 h4 => (h2 i h3 h4).trans (hb i h3 h4)⟩
theorem Held.keepB {T : World → Prop} {lo hi : Nat} {w w' : World} (h : Held T lo hi w) (q : B w w') : Held T lo hi w' :=
  h.on q.below.size fun i _ h2 => q.below.block i (Nat.lt_of_lt_of_le h2 h.le)
end Go.Proofs.Ytiblhebenhiijaa

namespace Go.Proofs.Ytiblhebenhiijaa
open Go.RowKit
/-- An int64 holds it. -/
def I64 (v : Int) : Prop := -9223372036854775808 ≤ v ∧ v ≤ 9223372036854775807
instance (v : Int) : Decidable (I64 v) := inferInstanceAs (Decidable (_ ∧ _))
theorem i64_wf {n : Int} (w : (Lit.int .i64 n).wf = true) : I64 n := by
  simp [Lit.wf, IntKind.min, IntKind.max, IntKind.signed, IntKind.bits] at w
  unfold I64; omega
end Go.Proofs.Ytiblhebenhiijaa

namespace Go.Proofs.Ytiblhebenhiijaa
open Go.RowKit
/-- A section's numbers. -/
structure Sec where
  r : Bool
  h : Int
  a0 : Int
  b0 : Int
  a1 : Int
  b1 : Int
  deriving DecidableEq, Inhabited
/-- Each fits 64 bits. -/
def Sec.I (s : Sec) : Prop := I64 s.h ∧ I64 s.a0 ∧ I64 s.b0 ∧ I64 s.a1 ∧ I64 s.b1
def Sec.cells (s : Sec) : List Value := [.bool s.r, .int .i64 s.h, .int .i64 s.a0, .int .i64 s.b0, .int .i64 s.a1, .int .i64 s.b1]
/-- It lies there. -/
structure SecAt (w : World) (p : Addr) (s : Sec) : Prop where
  r : w.cell? p = some (.bool s.r)
  h : w.cell? ⟨p.block, p.off + 1, none⟩ = some (.int .i64 s.h)
  a0 : w.cell? ⟨p.block, p.off + 2, none⟩ = some (.int .i64 s.a0)
  b0 : w.cell? ⟨p.block, p.off + 3, none⟩ = some (.int .i64 s.b0)
  a1 : w.cell? ⟨p.block, p.off + 4, none⟩ = some (.int .i64 s.a1)
  b1 : w.cell? ⟨p.block, p.off + 5, none⟩ = some (.int .i64 s.b1)
theorem SecAt.keep {w w' : World} {p : Addr} {s : Sec} (h : SecAt w p s) (q : Q w w') : SecAt w' p s :=
  ⟨q.keep h.r, q.keep h.h, q.keep h.a0, q.keep h.b0, q.keep h.a1, q.keep h.b1⟩
/-- The value is a slice of these sections. -/
def IsSecs (w : World) (v : Value) (l : List Sec) : Prop :=
  (v = .slice none 0 0 ∧ l = []) ∨
  ∃ (a : Addr) (cap : Nat), v = .slice (some a) l.length cap ∧ l.length ≤ cap ∧ cap ≤ maxLen ∧ ∀ i s, l[i]? = some s → s.I ∧ SecAt w (a.add (i * 6)) s
theorem SecAt.keepB {w w' : World} {p : Addr} {s : Sec} (h : SecAt w p s) (q : B w w') : SecAt w' p s :=
  ⟨q.keep h.r, q.keep h.h, q.keep h.a0, q.keep h.b0, q.keep h.a1, q.keep h.b1⟩
theorem IsSecs.keepB {w w' : World} {v : Value} {l : List Sec} (h : IsSecs w v l) (q : B w w') : IsSecs w' v l := by
  rcases h with h | ⟨a, cap, h1, h2, h3, h4⟩
  · exact .inl h
  · exact .inr ⟨a, cap, h1, h2, h3, fun i s hs => ⟨(h4 i s hs).1, (h4 i s hs).2.keepB q⟩⟩
theorem IsSecs.keep {w w' : World} {v : Value} {l : List Sec} (h : IsSecs w v l) (q : Q w w') : IsSecs w' v l := by
  rcases h with h | ⟨a, cap, h1, h2, h3, h4⟩
  · exact .inl h
  · exact .inr ⟨a, cap, h1, h2, h3, fun i s hs => ⟨(h4 i s hs).1, (h4 i s hs).2.keep q⟩⟩
/-- All cells of sections, one behind the other. -/
def flat (l : List Sec) : List Value := l.flatMap Sec.cells
theorem flat_get : ∀ (l : List Sec) (i j : Nat) (s : Sec), l[i]? = some s → j < 6 → (flat l)[i * 6 + j]? = s.cells[j]?
  | [], _, _, _, h, _ => by simp at h
  | x :: l, 0, j, s, h, hj => by
    simp at h
    subst h
    show (x.cells ++ flat l)[0 * 6 + j]? = x.cells[j]?
    rw [Nat.zero_mul, Nat.zero_add, List.getElem?_append_left (by simpa [Sec.cells] using hj)]
  | x :: l, i + 1, j, s, h, hj => by
    show (x.cells ++ flat l)[(i + 1) * 6 + j]? = s.cells[j]?
    rw [List.getElem?_append_right (by simp [Sec.cells]; omega)]
    have e : (i + 1) * 6 + j - x.cells.length = i * 6 + j := by simp [Sec.cells]; omega
    rw [e]
    exact flat_get l i j s (by simpa using h) hj
/-- Sections whose cells are a block's first ones. -/
theorem isSecs_cells {w : World} {l : List Sec} {b cap : Nat} (hI : ∀ s ∈ l, s.I) (h1 : l.length ≤ cap) (h2 : cap ≤ maxLen)
    (hc : ∀ k v, (flat l)[k]? = some v → w.cell? ⟨b, k, none⟩ = some v) : IsSecs w (.slice (some ⟨b, 0, none⟩) l.length cap) l := by
  refine .inr ⟨⟨b, 0, none⟩, cap, rfl, h1, h2, fun i s hs => ⟨hI s (List.mem_of_getElem? hs), ?_⟩⟩
  have e : (⟨b, 0, none⟩ : Addr).add (i * 6) = ⟨b, i * 6, none⟩ := by
    unfold Addr.add
    split
    · rename_i h; rw [h]
    · simp
  have g : ∀ j v, j < 6 → s.cells[j]? = some v → w.cell? ⟨b, i * 6 + j, none⟩ = some v := fun j v hj hv => hc _ _ ((flat_get l i j s hs hj).trans hv)
  rw [e]
  exact ⟨g 0 _ (by omega) rfl, g 1 _ (by omega) rfl, g 2 _ (by omega) rfl, g 3 _ (by omega) rfl, g 4 _ (by omega) rfl, g 5 _ (by omega) rfl⟩
theorem isSecs_new {w : World} {t : TypeId} {l : List Sec} {cs : Array Value} {cap H : Nat} (hc : cs = (flat l).toArray) (hH : w.heap.size = H) (hI : ∀ s ∈ l, s.I) (h1 : l.length ≤ cap) (h2 : cap ≤ maxLen) :
    IsSecs (w.alloc (.cells cs t)) (.slice (some ⟨H, 0, none⟩) l.length cap) l := by
  refine isSecs_cells hI h1 h2 fun k v hv => ?_
  subst hH hc
  rw [World.cell?_alloc_new]
  simpa using hv
/-- A slice of numbers of 16 bits. -/
def IsU16 (w : World) (v : Value) (n : Nat) : Prop :=
  (v = .slice none 0 0 ∧ n = 0) ∨
  ∃ (a : Addr) (cap : Nat), v = .slice (some a) n cap ∧ n ≤ cap ∧ cap ≤ maxLen ∧ ∀ i, i < n → ∃ x : Int, 0 ≤ x ∧ x ≤ 65535 ∧ w.cell? (a.add i) = some (.int .u16 x)
/-- The sum of heights. -/
def hsumI (l : List Sec) (k : Nat) : Int := (l.take k).foldl (fun t s => t + s.h) 0
theorem hsumI_succ (l : List Sec) (k : Nat) (s : Sec) (h : l[k]? = some s) : hsumI l (k + 1) = hsumI l k + s.h := by
  unfold hsumI
  rw [List.take_add_one, h]
  simp
/-- Is it one of them? (Behind a name: the walk does not look in.) -/
def inB (v a b : Int) : Bool := decide (a ≤ v) && decide (v ≤ b)
/-- A section that may be. -/
def secOk (s : Sec) : Bool := decide (1 ≤ s.h) && decide (s.h ≤ 60000) && decide (s.h.tmod 100 = 0) && inB s.a0 0 20000 && inB s.a1 1 20000 &&
  (if s.r then decide (s.b0 = 0) && decide (s.b1 = 0) else inB s.b0 0 20000 && inB s.b1 1 20000)
def okTo (l : List Sec) (k : Nat) : Bool := (l.take k).all secOk
/-- A shape that may be. -/
def rightS (l : List Sec) : Bool := decide (1 ≤ l.length) && decide (l.length ≤ 4) && l.all secOk && decide (hsumI l l.length ≤ 60000)
theorem okTo_succ (l : List Sec) (k : Nat) (s : Sec) (h : l[k]? = some s) (hk : okTo l k = true) (hs : secOk s = true) : okTo l (k + 1) = true := by
  unfold okTo at *
  rw [List.take_add_one, h]
  simp at hk ⊢
  exact ⟨hk, hs⟩
theorem secOk_h (s : Sec) (h : secOk s = true) : 1 ≤ s.h ∧ s.h ≤ 60000 := by
  unfold secOk at h
  simp only [Bool.and_eq_true, decide_eq_true_eq] at h
  exact ⟨h.1.1.1.1.1, h.1.1.1.1.2⟩
theorem hsum_small (l : List Sec) (k : Nat) (h : okTo l k = true) : 0 ≤ hsumI l k ∧ hsumI l k ≤ 60000 * (k : Int) := by
  induction k with
  | zero => simp [hsumI]
  | succ k ih =>
    cases hg : l[k]? with
    | none =>
      have e1 : l.take (k + 1) = l.take k := by rw [List.take_add_one, hg]; simp
      unfold okTo hsumI at *
      rw [e1] at h ⊢
      have := ih h
      omega
    | some s =>
      have h' : okTo l k = true ∧ secOk s = true := by
        unfold okTo at *
        rw [List.take_add_one, hg] at h
        simpa using h
      have := ih h'.1
      have hs := secOk_h s h'.2
      rw [hsumI_succ l k s hg]
      omega
theorem rightS_short (l : List Sec) (h : l.length < 1) : rightS l = false := by
  unfold rightS
  rw [decide_eq_false (show ¬ 1 ≤ l.length by omega)]
  simp
theorem rightS_long (l : List Sec) (h : 4 < l.length) : rightS l = false := by
  unfold rightS
  rw [decide_eq_false (show ¬ l.length ≤ 4 by omega)]
  simp
theorem rightS_bad (l : List Sec) (k : Nat) (s : Sec) (h : l[k]? = some s) (hs : secOk s = false) : rightS l = false := by
  have : l.all secOk = false := by
    rw [List.all_eq_false]
    exact ⟨s, List.mem_of_getElem? h, by simp [hs]⟩
  unfold rightS
  rw [this]
  simp
theorem rightS_end (l : List Sec) (h1 : 1 ≤ l.length) (h2 : l.length ≤ 4) (h : okTo l l.length = true) : rightS l = decide (hsumI l l.length ≤ 60000) := by
  unfold rightS
  unfold okTo at h
  rw [List.take_length] at h
  rw [decide_eq_true h1, decide_eq_true h2, h]
  simp
theorem secOk_eq (s : Sec) (m : Int) (hm : s.h.tmod 100 = m) : secOk s = (!(decide (s.h < 1)) && !(decide (60000 < s.h)) && !(m != 0) && inB s.a0 0 20000 && inB s.a1 1 20000 &&
    (if s.r then !(s.b0 != 0) && !(s.b1 != 0) else inB s.b0 0 20000 && inB s.b1 1 20000)) := by
  unfold secOk
  rw [hm]
  have e1 : decide (1 ≤ s.h) = !(decide (s.h < 1)) := by
    by_cases h : 1 ≤ s.h
    · rw [decide_eq_true h, decide_eq_false (by omega)]; rfl
    · rw [decide_eq_false h, decide_eq_true (by omega)]; rfl
  have e2 : decide (s.h ≤ 60000) = !(decide (60000 < s.h)) := by
    by_cases h : s.h ≤ 60000
    · rw [decide_eq_true h, decide_eq_false (by omega)]; rfl
    · rw [decide_eq_false h, decide_eq_true (by omega)]; rfl
  have e3 : ∀ x : Int, decide (x = 0) = !(x != 0) := by
    intro x
    by_cases h : x = 0
    · subst h; rfl
    · rw [decide_eq_false h]; simp [h]
  rw [e1, e2, e3, e3, e3]
end Go.Proofs.Ytiblhebenhiijaa

namespace Go.Proofs.Ytiblhebenhiijaa
open Go.RowKit
theorem wrapI {z : Int} (h1 : -9223372036854775808 ≤ z) (h2 : z ≤ 9223372036854775807) : IntKind.i64.wrap z = z := by
  rw [IntKind.wrap_i64]; omega
theorem IsU16.form {w : World} {v : Value} {n : Nat} (h : IsU16 w v n) : ∃ ao cap, v = .slice ao n cap ∧ n ≤ 9223372036854775807 := by
  rcases h with ⟨rfl, rfl⟩ | ⟨a, cap, rfl, h1, h2, _⟩
  · exact ⟨_, _, rfl, by omega⟩
  · exact ⟨_, _, rfl, by unfold maxLen at h2; omega⟩
theorem IsU16.keepB {w w' : World} {v : Value} {n : Nat} (h : IsU16 w v n) (q : B w w') : IsU16 w' v n := by
  rcases h with h | ⟨a, cap, h1, h2, h3, h4⟩
  · exact .inl h
  · exact .inr ⟨a, cap, h1, h2, h3, fun i hi => by obtain ⟨x, a1, a2, a3⟩ := h4 i hi; exact ⟨x, a1, a2, q.keep a3⟩⟩
end Go.Proofs.Ytiblhebenhiijaa

namespace Go.Proofs.Ytiblhebenhiijaa
/-- One digit: q is above or at the true digit, and r is what is left of u behind it. -/
structure Dig (u a b c q r : Nat) : Prop where
  rest : u = q * a + r
  up : (u * 4294967296 + c) / (a * 4294967296 + b) ≤ q
  few : q ≤ 4294967297
/-- The digit is right. -/
theorem Dig.done {u a b c q r : Nat} (hb : b < 4294967296) (hu : u < a * 4294967296 + b) (d : Dig u a b c q r) (h : (q < 4294967296 ∧ q * b ≤ 4294967296 * r + c) ∨ (4294967296 ≤ r ∧ q ≤ 4294967296)) :
    q = (u * 4294967296 + c) / (a * 4294967296 + b) := by
  refine Nat.le_antisymm ?_ d.up
  rw [Nat.le_div_iff_mul_le (by omega), Nat.mul_add, ← Nat.mul_assoc]
  have hr := d.rest
  have hz : q * b ≤ 4294967296 * r + c := by
    rcases h with h | h
    · exact h.2
    · have : q * b ≤ 4294967296 * 4294967295 := Nat.mul_le_mul h.2 (by omega)
      omega
  generalize q * a = x at *
  generalize q * b = z at *
  omega
def dr (hi lo y : Nat) : Nat := (hi * 18446744073709551616 + lo) % y
end Go.Proofs.Ytiblhebenhiijaa

namespace Go.Proofs.Ytiblhebenhiijaa
open Go.RowKit
def lowT (L : List (Int × Int)) (k : Nat) : Int := ((L.take k).map Prod.fst).sum
def highT (L : List (Int × Int)) (k : Nat) : Int := ((L.take k).map Prod.snd).sum
inductive AllLe : List (Int × Int) → List (Int × Int) → Prop
  | nil : AllLe [] []
  | cons {x y : Int × Int} {L M : List (Int × Int)} (h1 : x.1 ≤ y.1) (h2 : x.2 ≤ y.2) (h : AllLe L M) : AllLe (x :: L) (y :: M)
theorem AllLe.append {L M L' M' : List (Int × Int)} (h : AllLe L M) (h' : AllLe L' M') : AllLe (L ++ L') (M ++ M') := by
  induction h with
  | nil => exact h'
  | cons h1 h2 _ ih => exact .cons h1 h2 ih
theorem AllLe.map {α : Type} (f g : α → Int × Int) (h : ∀ a, (f a).1 ≤ (g a).1 ∧ (f a).2 ≤ (g a).2) : ∀ l : List α, AllLe (l.map f) (l.map g)
  | [] => .nil
  | a :: l => .cons (h a).1 (h a).2 (AllLe.map f g h l)
theorem AllLe.sums {L M : List (Int × Int)} (h : AllLe L M) : ∀ k, lowT L k ≤ lowT M k ∧ highT L k ≤ highT M k := by
  induction h with
  | nil => intro k; simp [lowT, highT]
  | cons h1 h2 _ ih =>
    intro k
    cases k with
    | zero => simp [lowT, highT]
    | succ k =>
      have := ih k
      unfold lowT highT at *
      simp only [List.take_succ_cons, List.map_cons, List.sum_cons]
      omega
end Go.Proofs.Ytiblhebenhiijaa

namespace Go.Proofs.Ytiblhebenhiijaa
open Go.RowKit
theorem own_block {w w' : World} {B e sz g n c : Nat} {xs : List Value} (h : w.ownsRow B e sz (.slice (some ⟨g, 0, none⟩) n c) n xs) (hb : w'.heap[g]? = w.heap[g]?) : w'.ownsRow B e sz (.slice (some ⟨g, 0, none⟩) n c) n xs := by
  obtain ⟨h1, h0 | ⟨g', cap, cur, hv, h2, h3, r⟩⟩ := h
  · exact ⟨h1, .inl h0⟩
  · simp only [Value.slice.injEq, Option.some.injEq, Addr.mk.injEq] at hv
    obtain ⟨⟨rfl, _⟩, _, rfl⟩ := hv
    exact ⟨h1, .inr ⟨g, c, cur, rfl, h2, hb.trans h3, r⟩⟩
/-- A field of a struct in memory holds a slice that the call owns. -/
structure Half (w : World) (BB bt off e g c : Nat) (xs : List Value) : Prop where
  cell : w.cell? ⟨bt, off, none⟩ = some (.slice (some ⟨g, 0, none⟩) xs.length c)
  fz : w.frozen? ⟨bt, off, none⟩ = false
  own : w.ownsRow BB e 1 (.slice (some ⟨g, 0, none⟩) xs.length c) xs.length xs
  ne : g ≠ bt
  lo : BB ≤ bt
theorem Half.glt {w : World} {BB bt off e g c : Nat} {xs : List Value} (h : Half w BB bt off e g c xs) : BB ≤ g ∧ g < w.heap.size := h.own.lt g rfl
theorem Half.blt {w : World} {BB bt off e g c : Nat} {xs : List Value} (h : Half w BB bt off e g c xs) : bt < w.heap.size := World.block_lt_of_cell? w _ h.cell
theorem Half.blocks {w w' : World} {BB bt off e g c : Nat} {xs : List Value} (h : Half w BB bt off e g c xs) (h1 : w'.heap[bt]? = w.heap[bt]?) (h2 : w'.heap[g]? = w.heap[g]?) : Half w' BB bt off e g c xs :=
  ⟨(World.cell?_of_block (a := ⟨bt, off, none⟩) h1).trans h.cell, (World.frozen?_of_block (a := ⟨bt, off, none⟩) h1).trans h.fz, own_block h.own h2, h.ne, h.lo⟩
theorem Half.keepB {w w' : World} {BB bt off e g c : Nat} {xs : List Value} (h : Half w BB bt off e g c xs) (q : B w w') : Half w' BB bt off e g c xs :=
  h.blocks (q.below.block _ h.blt) (q.below.block _ h.glt.2)
theorem Half.grown {w w' : World} {BB bt off e g c g2 : Nat} {xs : List Value} (h : Half w BB bt off e g c xs) (q : w.grownBy w' (some g2)) (hg : g ≠ g2) (hb : bt ≠ g2) : Half w' BB bt off e g c xs :=
  h.blocks (q.block _ h.blt (by simpa using hb)) (q.block _ h.glt.2 (by simpa using hg))
theorem Half.other {w : World} {BB bt off e g c : Nat} {xs : List Value} (h : Half w BB bt off e g c xs) (off2 : Nat) (hne : off2 ≠ off) (v : Value) : Half (w.setCell ⟨bt, off2, none⟩ v) BB bt off e g c xs :=
  ⟨(World.cell?_setCell_other w ⟨bt, off2, none⟩ ⟨bt, off, none⟩ v (fun e => hne (congrArg Addr.off e))).trans h.cell, (World.frozen?_setCell w _ _ v).trans h.fz, own_block h.own (Below.heap_setCell w ⟨bt, off2, none⟩ v g h.ne), h.ne, h.lo⟩
/-- It has grown, and the field holds it. -/
theorem Half.put {w : World} {BB bt off e g c : Nat} {xs : List Value} (h : w.ownsRow BB e 1 (.slice (some ⟨g, 0, none⟩) xs.length c) xs.length xs) {u : Value} (hc : w.cell? ⟨bt, off, none⟩ = some u) (hf : w.frozen? ⟨bt, off, none⟩ = false) (hne : g ≠ bt) (hlo : BB ≤ bt) :
    Half (w.setCell ⟨bt, off, none⟩ (.slice (some ⟨g, 0, none⟩) xs.length c)) BB bt off e g c xs :=
  ⟨World.cell?_setCell_same w ⟨bt, off, none⟩ _ hc, (World.frozen?_setCell w _ _ _).trans hf, own_block h (Below.heap_setCell w ⟨bt, off, none⟩ _ g hne), hne, hlo⟩
/-- A table: sums of bounds lie there. -/
def RTab (w : World) (p : Value) (L : List (Int × Int)) : Prop :=
  ∃ b aL cL aH cH, p = .pointer (some ⟨b, 0, none⟩) ∧ w.cell? ⟨b, 0, none⟩ = some (.slice (some aL) (L.length + 1) cL) ∧ w.cell? ⟨b, 1, none⟩ = some (.slice (some aH) (L.length + 1) cH) ∧
    (∀ k, k ≤ L.length → w.cell? (aL.add k) = some (.int .i64 (lowT L k))) ∧ (∀ k, k ≤ L.length → w.cell? (aH.add k) = some (.int .i64 (highT L k)))
theorem RTab.keepB {w w' : World} {p : Value} {L : List (Int × Int)} (h : RTab w p L) (q : B w w') : RTab w' p L := by
  obtain ⟨b, aL, cL, aH, cH, h0, h1, h2, h3, h4⟩ := h
  exact ⟨b, aL, cL, aH, cH, h0, q.keep h1, q.keep h2, fun k hk => q.keep (h3 k hk), fun k hk => q.keep (h4 k hk)⟩
end Go.Proofs.Ytiblhebenhiijaa

namespace Go.Proofs.Ytiblhebenhiijaa
open Go.RowKit
theorem own_keep {w w' : World} {B e sz n : Nat} {v : Value} {xs : List Value} (h : w.ownsRow B e sz v n xs) (hb : ∀ g, v.ownBlock = some g → w'.heap[g]? = w.heap[g]?) : w'.ownsRow B e sz v n xs := by
  obtain ⟨h1, h0 | ⟨g, cap, cur, rfl, h2, h3, r⟩⟩ := h
  · exact ⟨h1, .inl h0⟩
  · exact ⟨h1, .inr ⟨g, cap, cur, rfl, h2, (hb g rfl).trans h3, r⟩⟩
theorem cell_set {w : World} {b : Nat} {cs : Array Value} {t : TypeId} {fz : Nat × Nat} (h : w.heap[b]? = some (.cells cs t fz)) (k : Nat) (v : Value) : (w.setCell ⟨b, k, none⟩ v).heap[b]? = some (.cells (cs.setIfInBounds k v) t fz) := by
  simp [World.setCell, Array.getElem?_modify, h]
/-- A field of a struct in memory holds a slice that the call owns, or none. -/
structure Fld (w : World) (BB bt off e : Nat) (v : Value) (xs : List Value) : Prop where
  cell : w.cell? ⟨bt, off, none⟩ = some v
  fz : w.frozen? ⟨bt, off, none⟩ = false
  own : w.ownsRow BB e 1 v xs.length xs
  ne : v.ownBlock ≠ some bt
  lo : BB ≤ bt
  ob : ∃ cs t, w.heap[bt]? = some (.cells cs t (0, 0))
theorem Fld.blt {w : World} {BB bt off e : Nat} {v : Value} {xs : List Value} (h : Fld w BB bt off e v xs) : bt < w.heap.size := World.block_lt_of_cell? w _ h.cell
theorem Fld.blocks {w w' : World} {BB bt off e : Nat} {v : Value} {xs : List Value} (h : Fld w BB bt off e v xs) (h1 : w'.heap[bt]? = w.heap[bt]?) (h2 : ∀ g, v.ownBlock = some g → w'.heap[g]? = w.heap[g]?) : Fld w' BB bt off e v xs :=
  ⟨(World.cell?_of_block (a := ⟨bt, off, none⟩) h1).trans h.cell, (World.frozen?_of_block (a := ⟨bt, off, none⟩) h1).trans h.fz, own_keep h.own h2, h.ne, h.lo, by obtain ⟨cs, t, ho⟩ := h.ob; exact ⟨cs, t, h1.trans ho⟩⟩
theorem Fld.keepB {w w' : World} {BB bt off e : Nat} {v : Value} {xs : List Value} (h : Fld w BB bt off e v xs) (q : B w w') : Fld w' BB bt off e v xs :=
  h.blocks (q.below.block _ h.blt) (fun g hg => q.below.block _ (h.own.lt g hg).2)
theorem Fld.grown {w w' : World} {BB bt off e : Nat} {v : Value} {xs : List Value} {row : Option Nat} (h : Fld w BB bt off e v xs) (q : w.grownBy w' row) (hb : some bt ≠ row) (hg : ∀ g, v.ownBlock = some g → some g ≠ row) : Fld w' BB bt off e v xs :=
  h.blocks (q.block _ h.blt hb) (fun g hg' => q.block _ (h.own.lt g hg').2 (hg g hg'))
theorem Fld.other {w : World} {BB bt off e : Nat} {v : Value} {xs : List Value} (h : Fld w BB bt off e v xs) (off2 : Nat) (hne : off2 ≠ off) (u : Value) : Fld (w.setCell ⟨bt, off2, none⟩ u) BB bt off e v xs :=
  ⟨(World.cell?_setCell_other w ⟨bt, off2, none⟩ ⟨bt, off, none⟩ u (fun e => hne (congrArg Addr.off e))).trans h.cell, (World.frozen?_setCell w _ _ u).trans h.fz, own_keep h.own (fun g hg => Below.heap_setCell w ⟨bt, off2, none⟩ u g (fun e => h.ne (by rw [hg, e]))), h.ne, h.lo, by obtain ⟨cs, t, ho⟩ := h.ob; exact ⟨_, t, cell_set ho off2 u⟩⟩
/-- It has grown, and the field holds it. -/
theorem Fld.put {w : World} {BB bt off e n : Nat} {v : Value} {xs : List Value} (hl : xs.length = n) (h : w.ownsRow BB e 1 v n xs) {u : Value} (hc : w.cell? ⟨bt, off, none⟩ = some u) (hf : w.frozen? ⟨bt, off, none⟩ = false) (hne : v.ownBlock ≠ some bt) (hlo : BB ≤ bt) (ho : ∃ cs t, w.heap[bt]? = some (.cells cs t (0, 0))) :
    Fld (w.setCell ⟨bt, off, none⟩ v) BB bt off e v xs :=
  ⟨World.cell?_setCell_same w ⟨bt, off, none⟩ _ hc, (World.frozen?_setCell w _ _ _).trans hf, hl ▸ own_keep h (fun g hg => Below.heap_setCell w ⟨bt, off, none⟩ _ g (fun e => hne (by rw [hg, e]))), hne, hlo, by obtain ⟨cs, t, ho⟩ := ho; exact ⟨_, t, cell_set ho off v⟩⟩
/-- Both fields: rows apart from one another, and from a block that is to stay (xb). -/
structure Two (w : World) (BB bt e : Nat) (v u : Value) (xs ys : List Value) (xb : Nat) : Prop where
  l : Fld w BB bt 1 e v xs
  h : Fld w BB bt 2 e u ys
  ap : ∀ g, v.ownBlock = some g → u.ownBlock ≠ some g
  xv : v.ownBlock ≠ some xb
  xu : u.ownBlock ≠ some xb
  xt : xb ≠ bt
theorem Two.keepB {w w' : World} {BB bt e xb : Nat} {v u : Value} {xs ys : List Value} (h : Two w BB bt e v u xs ys xb) (q : B w w') : Two w' BB bt e v u xs ys xb :=
  ⟨h.l.keepB q, h.h.keepB q, h.ap, h.xv, h.xu, h.xt⟩
/-- Another block is to stay. -/
theorem Two.stay {w : World} {BB bt e xb : Nat} {v u : Value} {xs ys : List Value} (h : Two w BB bt e v u xs ys xb) (yb : Nat) (hy : w.heap.size ≤ yb) : Two w BB bt e v u xs ys yb :=
  ⟨h.l, h.h, h.ap, fun e => by have := (h.l.own.lt _ e).2; omega, fun e => by have := (h.h.own.lt _ e).2; omega, by have := h.l.blt; omega⟩
/-- The code's table: sums of bounds lie there, one a slice. -/
def CTab (w : World) (p : Value) (L : List (Int × Int)) : Prop :=
  ∃ b aL cL aH cH, 1 ≤ L.length ∧ p = .pointer (some ⟨b, 0, none⟩) ∧ w.cell? ⟨b, 0, none⟩ = some (.int .i64 (L.length * 100)) ∧ w.cell? ⟨b, 1, none⟩ = some (.slice (some aL) L.length cL) ∧ w.cell? ⟨b, 2, none⟩ = some (.slice (some aH) L.length cH) ∧
    (∀ k, k < L.length → w.cell? (aL.add k) = some (.int .i64 (lowT L (k + 1)))) ∧ (∀ k, k < L.length → w.cell? (aH.add k) = some (.int .i64 (highT L (k + 1))))
theorem CTab.keepB {w w' : World} {p : Value} {L : List (Int × Int)} (h : CTab w p L) (q : B w w') : CTab w' p L := by
  obtain ⟨b, aL, cL, aH, cH, hn, h0, hh, h1, h2, h3, h4⟩ := h
  exact ⟨b, aL, cL, aH, cH, hn, h0, q.keep hh, q.keep h1, q.keep h2, fun k hk => q.keep (h3 k hk), fun k hk => q.keep (h4 k hk)⟩
end Go.Proofs.Ytiblhebenhiijaa

namespace Go.Proofs.Ytiblhebenhiijaa
open Go.RowKit
/-- A table that lies in blocks from lo up to hi alone. -/
structure TabN (T : World → Value → List (Int × Int) → Prop) (lo hi : Nat) (w : World) (p : Value) (L : List (Int × Int)) : Prop where
  held : Held (fun w => T w p L) lo hi w
  at_ : ∃ b, p = .pointer (some ⟨b, 0, none⟩) ∧ lo ≤ b ∧ b < hi
  ob : ∀ b, p = .pointer (some ⟨b, 0, none⟩) → ∃ cs t, w.heap[b]? = some (.cells cs t (0, 0))
theorem TabN.on {T : World → Value → List (Int × Int) → Prop} {lo hi : Nat} {w w' : World} {p : Value} {L : List (Int × Int)} (h : TabN T lo hi w p L) (hs : w.heap.size ≤ w'.heap.size) (hb : ∀ i, lo ≤ i → i < hi → w'.heap[i]? = w.heap[i]?) : TabN T lo hi w' p L :=
  ⟨h.held.on hs hb, h.at_, fun b e => by
    obtain ⟨cs, t, ho⟩ := h.ob b e
    obtain ⟨b', e', h1, h2⟩ := h.at_
    have : b = b' := by rw [e] at e'; simpa using e'
    exact ⟨cs, t, (hb b (by omega) (by omega)).trans ho⟩⟩
theorem TabN.keepB {T : World → Value → List (Int × Int) → Prop} {lo hi : Nat} {w w' : World} {p : Value} {L : List (Int × Int)} (h : TabN T lo hi w p L) (q : B w w') : TabN T lo hi w' p L :=
  h.on q.below.size fun i _ h2 => q.below.block i (Nat.lt_of_lt_of_le h2 h.held.le)
end Go.Proofs.Ytiblhebenhiijaa

namespace Go.Proofs.Ytiblhebenhiijaa
open Go.RowKit
/-- Of what was there nothing turns but blocks of S. -/
structure G (S : Nat → Prop) (w w' : World) : Prop where
  os : w'.os = w.os
  tape : w'.tape = w.tape
  output : w'.output = w.output
  size : w.heap.size ≤ w'.heap.size
  block : ∀ i, i < w.heap.size → ¬ S i → w'.heap[i]? = w.heap[i]?
theorem G.refl (S : Nat → Prop) (w : World) : G S w w := ⟨rfl, rfl, rfl, Nat.le_refl _, fun _ _ _ => rfl⟩
theorem G.trans {S : Nat → Prop} {a b c : World} (h : G S a b) (k : G S b c) : G S a c :=
  ⟨k.os.trans h.os, k.tape.trans h.tape, k.output.trans h.output, Nat.le_trans h.size k.size, fun i hi hs => (k.block i (Nat.lt_of_lt_of_le hi h.size) hs).trans (h.block i hi hs)⟩
theorem B.g {w w' : World} (h : B w w') (S : Nat → Prop) : G S w w' := ⟨h.below.os, h.below.tape, h.below.output, h.below.size, fun i hi _ => h.below.block i hi⟩
theorem G.below {S : Nat → Prop} {w w' : World} (h : G S w w') {BB : Nat} (hS : ∀ i, S i → BB ≤ i) (hB : BB ≤ w.heap.size) : Below BB w w' :=
  ⟨h.os, h.tape, h.output, h.size, fun k hk => h.block k (by omega) (fun hs => by have := hS k hs; omega)⟩
theorem G.b {S : Nat → Prop} {W w w' : World} (h : G S w w') (hb : B W w) (hS : ∀ i, S i → W.heap.size ≤ i) : B W w' := ⟨hb.below.trans (h.below hS hb.below.size)⟩
theorem G.mono {S S' : Nat → Prop} {w w' : World} (h : G S w w') (hS : ∀ i, i < w.heap.size → S i → S' i) : G S' w w' :=
  ⟨h.os, h.tape, h.output, h.size, fun i hi hs => h.block i hi (fun h1 => hs (hS i hi h1))⟩
theorem G.drew {S : Nat → Prop} {a w : World} (h : G S a w) : G S a w.drew := ⟨h.os, h.tape, h.output, h.size, h.block⟩
theorem G.alloc {S : Nat → Prop} {a w : World} (h : G S a w) (o : Obj) : G S a (w.alloc o) :=
  h.trans ⟨rfl, rfl, rfl, by simp, fun i hi _ => Below.heap_alloc _ _ _ hi⟩
theorem G.setCell {S : Nat → Prop} {a w : World} (h : G S a w) {p : Addr} (hp : S p.block ∨ a.heap.size ≤ p.block) (v : Value) : G S a (w.setCell p v) :=
  ⟨h.os, h.tape, h.output, by simpa [World.setCell] using h.size, fun i hi hs => by
    rw [Below.heap_setCell w p v i (fun e => by rcases hp with hp | hp; exact hs (e ▸ hp); omega)]
    exact h.block i hi hs⟩
theorem G.grown {S : Nat → Prop} {a w w' : World} {row : Option Nat} (h : G S a w) (g : w.grownBy w' row) (hr : ∀ k, row = some k → S k ∨ a.heap.size ≤ k) : G S a w' :=
  ⟨g.os.trans h.os, g.tape.trans h.tape, g.output.trans h.output, Nat.le_trans h.size g.size, fun i hi hs => by
    rw [g.block i (Nat.lt_of_lt_of_le hi h.size) (fun e => by rcases hr i e.symm with h1 | h1; exact hs h1; omega)]
    exact h.block i hi hs⟩
theorem G.keep {S : Nat → Prop} {w w' : World} (h : G S w w') {p : Addr} {v : Value} (hp : ¬ S p.block) (hc : w.cell? p = some v) : w'.cell? p = some v :=
  (World.cell?_of_block (w := w) (h.block p.block (World.block_lt_of_cell? w p hc) hp)).trans hc
theorem G.obj {S : Nat → Prop} {w w' : World} (h : G S w w') {b : Nat} {o : Obj} (hb : ¬ S b) (ho : w.heap[b]? = some o) : w'.heap[b]? = some o :=
  (h.block b (Array.getElem?_eq_some_iff.1 ho).1 hb).trans ho
theorem G.held {S : Nat → Prop} {T : World → Prop} {lo hi : Nat} {w w' : World} (h : G S w w') (k : Held T lo hi w) (hS : ∀ i, lo ≤ i → i < hi → ¬ S i) : Held T lo hi w' :=
  k.on h.size fun i h1 h2 => h.block i (Nat.lt_of_lt_of_le h2 k.le) (hS i h1 h2)
theorem obj_lt {w : World} {b : Nat} {o : Obj} (h : w.heap[b]? = some o) : b < w.heap.size := (Array.getElem?_eq_some_iff.1 h).1
theorem obj_cell {w : World} {b : Nat} {cs : Array Value} {t : TypeId} {fz : Nat × Nat} (h : w.heap[b]? = some (.cells cs t fz)) (k : Nat) : w.cell? ⟨b, k, none⟩ = cs[k]? := by
  simp [World.cell?, h]
theorem obj_new (w : World) (o : Obj) : (w.alloc o).heap[w.heap.size]? = some o := by
  show (w.heap.push o)[w.heap.size]? = some o
  simp
end Go.Proofs.Ytiblhebenhiijaa

namespace Go.Proofs.Ytiblhebenhiijaa
open Go.RowKit
/-- The i-th byte. -/
def byteAt (s : ByteArray) (i : Nat) : Nat := (s.data.toList.getD i 0).toNat
def lowN (n : Nat) : Bool := decide (97 ≤ n) && decide (n ≤ 122)
def digN (n : Nat) : Bool := decide (48 ≤ n) && decide (n ≤ 57)
/-- A name: a letter, then letters and digits, sixteen at most. -/
def nameS (s : ByteArray) : Bool := decide (1 ≤ s.size) && decide (s.size ≤ 16) && lowN (byteAt s 0) && (List.range s.size).all fun i => lowN (byteAt s i) || digN (byteAt s i)
theorem byteAt_get (s : ByteArray) (i : Nat) (h : i < s.size) : (s[i]'h).toNat = byteAt s i := by
  obtain ⟨⟨l⟩⟩ := s
  have h' : i < l.length := h
  show l[i].toNat = (l.getD i 0).toNat
  rw [List.getD_eq_getElem?_getD, List.getElem?_eq_getElem h']
  rfl
theorem nameS_size {s : ByteArray} (h : s.size < 1 ∨ 16 < s.size) : nameS s = false := by
  unfold nameS
  rcases h with h | h
  · rw [decide_eq_false (show ¬ 1 ≤ s.size by omega)]; simp
  · rw [decide_eq_false (show ¬ s.size ≤ 16 by omega)]; simp
theorem nameS_first {s : ByteArray} (h : lowN (byteAt s 0) = false) : nameS s = false := by
  unfold nameS; rw [h]; simp
theorem nameS_bad {s : ByteArray} {i : Nat} (hi : i < s.size) (h : (lowN (byteAt s i) || digN (byteAt s i)) = false) : nameS s = false := by
  have : ((List.range s.size).all fun i => lowN (byteAt s i) || digN (byteAt s i)) = false := by
    rw [List.all_eq_false]
    exact ⟨i, List.mem_range.2 hi, by simpa using h⟩
  unfold nameS; rw [this]; simp
theorem nameS_good {s : ByteArray} (h1 : 1 ≤ s.size) (h2 : s.size ≤ 16) (h3 : lowN (byteAt s 0) = true) (h : ∀ i, i < s.size → (lowN (byteAt s i) || digN (byteAt s i)) = true) : nameS s = true := by
  unfold nameS
  rw [decide_eq_true h1, decide_eq_true h2, h3]
  simp only [Bool.true_and]
  exact List.all_eq_true.2 fun i hi => h i (List.mem_range.1 hi)
end Go.Proofs.Ytiblhebenhiijaa

namespace Go.Proofs.Ytiblhebenhiijaa
open Go.RowKit
/-- A word: where, and its bytes. -/
abbrev Wd := Nat × List UInt8
section
variable {bs : List UInt8} {p : Nat} {c : UInt8} {out : List (List Wd)} {line : List Wd} {w : List UInt8} {note : Bool}
end
end Go.Proofs.Ytiblhebenhiijaa

namespace Go.Proofs.Ytiblhebenhiijaa
open Go.RowKit
/-- Bytes lie in block b, from place o on. -/
def BAt (w : World) (b o : Nat) (bs : List UInt8) : Prop := ∀ i c, bs[i]? = some c → w.cell? ⟨b, o + i, none⟩ = some (.int .u8 ((c.toNat : Nat) : Int))
theorem BAt.keep {w w' : World} {b o : Nat} {bs : List UInt8} (h : BAt w b o bs) (q : B w w') : BAt w' b o bs := fun i c hc => q.keep (h i c hc)
/-- The header of a slice of bytes. -/
structure IsB (w : World) (ao : Option Addr) (cap b o : Nat) (bs : List UInt8) : Prop where
  at_ : BAt w b o bs
  ao : 0 < bs.length → ao = some ⟨b, o, none⟩
  le : bs.length ≤ cap
  max : cap ≤ maxLen
theorem IsB.keep {w w' : World} {ao : Option Addr} {cap b o : Nat} {bs : List UInt8} (h : IsB w ao cap b o bs) (q : B w w') : IsB w' ao cap b o bs := ⟨h.at_.keep q, h.ao, h.le, h.max⟩
theorem BAt.drop {w : World} {b o : Nat} {bs : List UInt8} (h : BAt w b o bs) (k : Nat) : BAt w b (o + k) (bs.drop k) := fun i c hc => by
  rw [List.getElem?_drop] at hc
  rw [Nat.add_assoc]
  exact h _ _ hc
theorem BAt.take {w : World} {b o : Nat} {bs : List UInt8} (h : BAt w b o bs) (k : Nat) : BAt w b o (bs.take k) := fun i c hc => by
  rw [List.getElem?_take] at hc
  split at hc
  · exact h _ _ hc
  · cases hc
/-- A string of bytes. -/
def strB (l : List UInt8) : ByteArray := ⟨l.toArray⟩
/-- Words in memory. -/
def IsWords (w : World) (v : Value) (ws : List Wd) : Prop :=
  (v = .slice none 0 0 ∧ ws = []) ∨
  ∃ g cap, v = .slice (some ⟨g, 0, none⟩) ws.length cap ∧ ws.length ≤ cap ∧ cap ≤ maxLen ∧ ∀ i x, ws[i]? = some x → w.cell? ⟨g, i * 2, none⟩ = some (.int .i64 ((x.1 : Nat) : Int)) ∧ w.cell? ⟨g, i * 2 + 1, none⟩ = some (.string (strB x.2))
theorem IsWords.form {w : World} {v : Value} {ws : List Wd} (h : IsWords w v ws) : ∃ ao cap, v = .slice ao ws.length cap := by
  rcases h with ⟨rfl, rfl⟩ | ⟨g, cap, rfl, _⟩ <;> exact ⟨_, _, rfl⟩
/-- Words stay where their block stays. -/
theorem IsWords.block {w w' : World} {v : Value} {ws : List Wd} (h : IsWords w v ws) (hb : ∀ b, v.ownBlock = some b → b < w.heap.size → w'.heap[b]? = w.heap[b]?) : IsWords w' v ws := by
  rcases h with h | ⟨g, cap, rfl, h2, h3, h4⟩
  · exact .inl h
  · refine .inr ⟨g, cap, rfl, h2, h3, fun i x hx => ?_⟩
    obtain ⟨k1, k2⟩ := h4 i x hx
    have hlt := World.block_lt_of_cell? w _ k1
    have e := hb g rfl hlt
    exact ⟨(World.cell?_of_block (a := ⟨g, i * 2, none⟩) e).trans k1, (World.cell?_of_block (a := ⟨g, i * 2 + 1, none⟩) e).trans k2⟩
theorem IsWords.keep {w w' : World} {v : Value} {ws : List Wd} (h : IsWords w v ws) (q : B w w') : IsWords w' v ws := h.block fun b _ hlt => q.below.block b hlt
/-- Lines of words, in a row that the call owns. -/
structure LinesO (w : World) (base : Nat) (e : TypeId) (v : Value) (LL : List (List Wd)) (vs : List Value) : Prop where
  own : w.ownsRow base e 1 v LL.length vs
  row : ∀ (j : Nat) u L, vs[j]? = some u → LL[j]? = some L → IsWords w u L ∧ ∃ b, u.ownBlock = some b ∧ v.ownBlock ≠ some b ∧ b < w.heap.size ∧ base ≤ b
theorem LinesO.nil (w : World) (base : Nat) (e : TypeId) : LinesO w base e (.slice none 0 0) [] [] := ⟨World.ownsRow_nil _ _ _ _, fun j u L h => by simp at h⟩
theorem lines_keep {w w' : World} {base : Nat} {e : TypeId} {v : Value} {LL : List (List Wd)} {vs : List Value} (h : LinesO w base e v LL vs) {row : Option Nat} (q : w.grownBy w' row)
    (hv : ∀ b, row = some b → v.ownBlock ≠ some b) (hs : ∀ b, row = some b → ∀ u ∈ vs, u.ownBlock ≠ some b) : LinesO w' base e v LL vs := by
  refine ⟨h.own.kept (row := row) q ?_, fun j u L hu hL => ?_⟩
  · cases hb : v.ownBlock with
    | none => exact .inl rfl
    | some b => exact .inr fun e => hv b e.symm hb
  · obtain ⟨h1, b, h2, h3, h4, h5⟩ := h.row j u L hu hL
    exact ⟨h1.block fun b' hb' hlt => q.block b' hlt (fun e => hs b' e.symm u (List.mem_of_getElem? hu) hb'), b, h2, h3, Nat.lt_of_lt_of_le h4 q.size, h5⟩
theorem B.none {w w' : World} (q : B w w') : w.grownBy w' none := ⟨q.below.os, q.below.tape, q.below.output, q.below.size, fun k hk _ => q.below.block k hk⟩
theorem row_keep {w w' : World} {base : Nat} {e : TypeId} {size n : Nat} {v : Value} {xs : List Value} (h : w.ownsRow base e size v n xs) (q : B w w') : w'.ownsRow base e size v n xs :=
  h.kept (row := none) q.none (by cases v.ownBlock <;> simp)
theorem addz (b j : Nat) : (⟨b, 0, none⟩ : Addr).add j = ⟨b, j, none⟩ := by unfold Addr.add; split <;> simp_all
/-- Cells of a new block. -/
theorem newest {w : World} {cs : Array Value} {t : TypeId} {H : Nat} (hH : w.heap.size = H) : ∀ j u, cs.toList[j]? = some u → (w.alloc (.cells cs t)).cell? ((⟨H, 0, none⟩ : Addr).add j) = some u := by
  intro j u h
  rw [addz]
  subst hH
  rw [World.cell?_alloc_new]
  simpa using h
theorem info_of {P : Program} {t : TypeId} {z : Value} {s b : Nat} (h : (P.info? t).map (fun i => (i.zero, i.size, i.bytes)) = some (some z, s, b)) : ∃ i, P.info? t = some i ∧ i.zero = some z ∧ i.size = s ∧ i.bytes = b := by
  cases hi : P.info? t with
  | none => rw [hi] at h; cases h
  | some i => rw [hi] at h; simp at h; exact ⟨i, rfl, h.1, h.2.1, h.2.2⟩
theorem LinesO.keep {w w' : World} {base : Nat} {e : TypeId} {v : Value} {LL : List (List Wd)} {vs : List Value} (h : LinesO w base e v LL vs) (q : B w w') : LinesO w' base e v LL vs :=
  lines_keep h q.none (fun b hb => by cases hb) (fun b hb => by cases hb)
theorem LinesO.len {w : World} {base : Nat} {e : TypeId} {v : Value} {LL : List (List Wd)} {vs : List Value} (h : LinesO w base e v LL vs) : vs.length = LL.length := by
  have := h.own.1
  omega
/-- Lines of words in memory. -/
def IsLines (w : World) (v : Value) (LL : List (List Wd)) : Prop :=
  (v = .slice none 0 0 ∧ LL = []) ∨
  ∃ g cap, v = .slice (some ⟨g, 0, none⟩) LL.length cap ∧ LL.length ≤ cap ∧ cap ≤ maxLen ∧ ∀ i L, LL[i]? = some L → ∃ u, w.cell? ⟨g, i, none⟩ = some u ∧ IsWords w u L
theorem IsLines.keep {w w' : World} {v : Value} {LL : List (List Wd)} (h : IsLines w v LL) (q : B w w') : IsLines w' v LL := by
  rcases h with h | ⟨g, cap, h1, h2, h3, h4⟩
  · exact .inl h
  · exact .inr ⟨g, cap, h1, h2, h3, fun i L hL => by obtain ⟨u, k1, k2⟩ := h4 i L hL; exact ⟨u, q.keep k1, k2.keep q⟩⟩
theorem IsLines.form {w : World} {v : Value} {LL : List (List Wd)} (h : IsLines w v LL) : ∃ ao cap, v = .slice ao LL.length cap := by
  rcases h with ⟨rfl, rfl⟩ | ⟨g, cap, rfl, _⟩ <;> exact ⟨_, _, rfl⟩
theorem LinesO.is {w : World} {base : Nat} {e : TypeId} {v : Value} {LL : List (List Wd)} {vs : List Value} (h : LinesO w base e v LL vs) : IsLines w v LL := by
  have hown := h.own
  rcases hown.2 with ⟨h0, h1⟩ | ⟨g, cap, cur, rfl, _, _, h1, h2, _⟩
  · exact .inl ⟨h0, List.length_eq_zero_iff.1 (by omega)⟩
  · refine .inr ⟨g, cap, rfl, h1, h2, fun i L hL => ?_⟩
    have hi : i < LL.length := (List.getElem?_eq_some_iff.1 hL).1
    have hlen := h.len
    have hu : vs[i]? = some vs[i] := List.getElem?_eq_getElem (by omega)
    exact ⟨_, (hown.cellAt i (by omega)).trans hu, (h.row i _ L hu hL).1⟩
end Go.Proofs.Ytiblhebenhiijaa

namespace Go.Proofs.Ytiblhebenhiijaa
open Go.RowKit
set_option linter.unusedVariables false
theorem own_on {w w' : World} {base e size n : Nat} {v : Value} {xs : List Value} (h : w.ownsRow base e size v n xs) (hb : ∀ i, base ≤ i → i < w.heap.size → w'.heap[i]? = w.heap[i]?) : w'.ownsRow base e size v n xs := by
  refine ⟨h.1, ?_⟩
  rcases h.2 with hn | ⟨g, cap, cur, rfl, hbg, hg, rest⟩
  · exact .inl hn
  · exact .inr ⟨g, cap, cur, rfl, hbg, (hb g hbg (obj_lt hg)).trans hg, rest⟩
theorem own_low {w : World} {base base' e size n : Nat} {v : Value} {xs : List Value} (h : w.ownsRow base e size v n xs) (hb : base' ≤ base) : w.ownsRow base' e size v n xs := by
  refine ⟨h.1, ?_⟩
  rcases h.2 with hn | ⟨g, cap, cur, rfl, hbg, rest⟩
  · exact .inl hn
  · exact .inr ⟨g, cap, cur, rfl, Nat.le_trans hb hbg, rest⟩
theorem own_keepBx {w w' : World} {base e size n : Nat} {v : Value} {xs : List Value} (h : w.ownsRow base e size v n xs) (q : B w w') : w'.ownsRow base e size v n xs :=
  own_on h fun i _ hi => q.below.block i hi
/-- A row of numbers as cells. -/
def flatL (v : List Int) : List Value := v.map (fun x => .int .i64 x)
theorem flatL_len (v : List Int) : (flatL v).length = v.length := by unfold flatL; rw [List.length_map]
theorem flatL_get {v : List Int} {i : Nat} {x : Int} (h : v[i]? = some x) : (flatL v)[i]? = some (.int .i64 x) := by unfold flatL; rw [List.getElem?_map, h]; rfl
theorem getD_of {v : List Int} {i : Nat} (h : i < v.length) : v[i]? = some (v.getD i 0) := by
  rw [List.getElem?_eq_getElem h, List.getD_eq_getElem?_getD, List.getElem?_eq_getElem h]; rfl
/-- How many strokes a part makes; how many a transfer makes. -/
def pcsX (p : Int) : Int := min p 4
/-- The parts of a volume, and what is left over. -/
theorem parts_nums {v m : Int} (hv : 1 ≤ v ∧ v ≤ 20000000) (hm : 1 ≤ m ∧ m ≤ 20000000) : 1 ≤ (v + m - 1).tdiv m ∧ (v + m - 1).tdiv m ≤ 40000000 := by
  rw [Int.tdiv_eq_ediv_of_nonneg (by omega)]
  constructor
  · exact (Int.le_ediv_iff_mul_le (by omega)).2 (by omega)
  · exact Int.le_trans (Int.ediv_le_self _ (by omega)) (by omega)
theorem even_nums {v p : Int} (hv : 1 ≤ v ∧ v ≤ 20000000) (hp : 1 ≤ p ∧ p ≤ 1000) : 0 ≤ v.tdiv p ∧ v.tdiv p ≤ 20000000 ∧ 0 ≤ v.tmod p ∧ v.tmod p < p := by
  rw [Int.tdiv_eq_ediv_of_nonneg (by omega), Int.tmod_eq_emod_of_nonneg (by omega)]
  exact ⟨Int.ediv_nonneg (by omega) (by omega), Int.le_trans (Int.ediv_le_self _ (by omega)) hv.2, Int.emod_nonneg _ (by omega), Int.emod_lt_of_pos _ (by omega)⟩
theorem pcs_nums {p : Int} (h : 0 ≤ p) : 0 ≤ pcsX p ∧ pcsX p ≤ 4 := by unfold pcsX; omega
theorem longInfo : (Try.prog.info? 2).map (fun i => (i.zero, i.size, i.bytes)) = some (some (.int .i64 0), 1, 8) := by kernel_rfl
/-- A row of numbers that the call owns. -/
def RowJ (w : World) (base g nn : Nat) (v : List Int) : Prop := w.ownsRow base 2 1 (.slice (some ⟨g, 0, none⟩) nn nn) nn (flatL v)
theorem RowJ.keep {w w' : World} {base g nn : Nat} {v : List Int} (h : RowJ w base g nn v) (q : B w w') : RowJ w' base g nn v := own_keepBx h q
theorem RowJ.at_ {w : World} {base g nn : Nat} {v : List Int} (h : RowJ w base g nn v) {i : Nat} (hi : i < nn) : v.length = nn ∧ v[i]? = some (v.getD i 0) ∧ w.cell? ⟨g, i, none⟩ = some (.int .i64 (v.getD i 0)) ∧ w.frozen? ⟨g, i, none⟩ = false := by
  have hl : v.length = nn := by have := h.1; rw [flatL_len] at this; omega
  have hv := getD_of (v := v) (i := i) (by omega)
  refine ⟨hl, hv, ?_, World.ownsRow.frozenAt h i⟩
  rw [World.ownsRow.cellAt h i (by omega)]
  exact flatL_get hv
end Go.Proofs.Ytiblhebenhiijaa

namespace Go.Proofs.Ytiblhebenhiijaa
open Go.RowKit
/-- Those that must come before, as bits. -/
def amOf (md : Region.Mode) (o : Oper) : Nat := o.after.toList.foldr (fun e m => if Region.binds md e then m ||| 2 ^ e.on else m) 0
/-- Those that touch the same slots and don't wait for it, as bits. -/
def cfOf (md : Region.Mode) (ops : Array Oper) (oi : Oper) (i : Nat) : List Oper → Nat → Nat
  | [], _ => 0
  | oj :: l, j => (if j == i || (amOf md oj).testBit i || oi.apart ops oj then 0 else 2 ^ j) ||| cfOf md ops oi i l (j + 1)
def cfAll (md : Region.Mode) (ops : Array Oper) : List Oper → Nat → List Nat
  | [], _ => []
  | oi :: l, i => cfOf md ops oi i ops.toList 0 :: cfAll md ops l (i + 1)
theorem testBit_pow (a b : Nat) : (2 ^ a).testBit b = decide (a = b) := Nat.testBit_two_pow
theorem amOf_bit (md : Region.Mode) (o : Oper) (k : Nat) : (amOf md o).testBit k = true ↔ ∃ e ∈ o.after, Region.binds md e = true ∧ e.on = k := by
  have h : ∀ l : List Edge, (l.foldr (fun e m => if Region.binds md e then m ||| 2 ^ e.on else m) 0).testBit k = true ↔ ∃ e ∈ l, Region.binds md e = true ∧ e.on = k := by
    intro l
    induction l with
    | nil => simp
    | cons e l ih =>
      rw [List.foldr_cons]
      by_cases hb : Region.binds md e = true
      · rw [if_pos hb, Nat.testBit_or, Bool.or_eq_true, ih, testBit_pow]
        simp [hb]
        constructor
        · rintro (h | h)
          · exact Or.inr h
          · exact Or.inl h
        · rintro (h | h)
          · exact Or.inr h
          · exact Or.inl h
      · rw [if_neg hb, ih]
        simp [hb]
  unfold amOf
  rw [h]
  simp
theorem sub_bits {a b : Nat} (h : (a &&& b == a) = true) (k : Nat) (hk : a.testBit k = true) : b.testBit k = true := by
  have e : a &&& b = a := by simpa using h
  rw [← e, Nat.testBit_and, Bool.and_eq_true] at hk
  exact hk.2
theorem bits_sub {a b : Nat} (h : ∀ k, a.testBit k = true → b.testBit k = true) : (a &&& b == a) = true := by
  rw [beq_iff_eq]
  refine Nat.eq_of_testBit_eq fun k => ?_
  rw [Nat.testBit_and]
  cases e : a.testBit k
  · rfl
  · rw [h k e]; rfl
theorem cfOf_bit (md : Region.Mode) (ops : Array Oper) (oi : Oper) (i j : Nat) (oj : Oper) (hji : j ≠ i) (hn : (amOf md oj).testBit i = false) (ha : oi.apart ops oj = false) :
    ∀ (l : List Oper) (s k : Nat), l[k]? = some oj → s + k = j → (cfOf md ops oi i l s).testBit j = true
  | [], _, _, h, _ => by simp at h
  | o :: l, s, 0, h, e => by
    simp at h e
    subst h e
    unfold cfOf
    rw [Nat.testBit_or, if_neg (by simp [hji, hn, ha]), testBit_pow]
    simp
  | o :: l, s, k + 1, h, e => by
    unfold cfOf
    rw [Nat.testBit_or, cfOf_bit md ops oi i j oj hji hn ha l (s + 1) k (by simpa using h) (by omega)]
    simp
theorem cfAll_get (md : Region.Mode) (ops : Array Oper) : ∀ (l : List Oper) (s k : Nat) (o : Oper), l[k]? = some o → (cfAll md ops l s)[k]? = some (cfOf md ops o (s + k) ops.toList 0)
  | [], _, _, _, h => by simp at h
  | o :: l, s, 0, _, h => by simp at h; subst h; simp [cfAll]
  | _ :: l, s, k + 1, o, h => by
    unfold cfAll
    rw [List.getElem?_cons_succ, cfAll_get md ops l (s + 1) k o (by simpa using h)]
    congr 2
    omega
/-- The list of those that have come up, and its bits. -/
structure Inv (n : Nat) (listed : Array Bool) (done : Nat) : Prop where
  size : listed.size = n
  get : ∀ j, j < n → listed[j]? = some (done.testBit j)
  far : ∀ j, n ≤ j → done.testBit j = false
theorem Inv.getF {n done j : Nat} {listed : Array Bool} (h : Inv n listed done) : listed.getD j false = done.testBit j := by
  by_cases c : j < n
  · rw [Array.getD_eq_getD_getElem?, h.get j c]; rfl
  · rw [Array.getD_eq_getD_getElem?, Array.getElem?_eq_none (by rw [h.size]; omega), h.far j (by omega)]; rfl
theorem Inv.getT {n done j : Nat} {listed : Array Bool} (h : Inv n listed done) (c : j < n) : listed.getD j true = done.testBit j := by
  rw [Array.getD_eq_getD_getElem?, h.get j c]; rfl
theorem Inv.set {n done i : Nat} {listed : Array Bool} (h : Inv n listed done) (hi : i < n) : Inv n (listed.setIfInBounds i true) (done ||| 2 ^ i) where
  size := by rw [Array.size_setIfInBounds, h.size]
  get j hj := by
    rw [Array.getElem?_setIfInBounds, Nat.testBit_or, testBit_pow]
    by_cases e : i = j
    · subst e; simp [h.size, hj]
    · rw [if_neg e, h.get j hj]; simp [e]
  far j hj := by
    rw [Nat.testBit_or, testBit_pow, h.far j hj]
    simp; omega
theorem Inv.start (n : Nat) : Inv n (Array.replicate n false) 0 where
  size := by simp
  get j hj := by simp [hj]
  far j _ := by simp
end Go.Proofs.Ytiblhebenhiijaa

namespace Go.Proofs.Ytiblhebenhiijaa
open Go.RowKit
/-- What is said of a slot: it outlasts what turns nothing that was there. -/
def Slot.stays (V : Value → World → Prop) : Prop := ∀ v w w', V v w → B w w' → V v w'
end Go.Proofs.Ytiblhebenhiijaa

namespace Go.Proofs.Ytiblhebenhiijaa
open Go.RowKit
structure Rec where
  n : ByteArray
  x : Int
  y : Int
  z : Int
  l : List Sec
def Rec.cells (r : Rec) (v : Value) : List Value := [.string r.n, .int .i64 r.x, .int .i64 r.y, .int .i64 r.z, v]
structure RecAt (w : World) (p : Addr) (r : Rec) : Prop where
  n : w.cell? p = some (.string r.n)
  x : w.cell? ⟨p.block, p.off + 1, none⟩ = some (.int .i64 r.x)
  y : w.cell? ⟨p.block, p.off + 2, none⟩ = some (.int .i64 r.y)
  z : w.cell? ⟨p.block, p.off + 3, none⟩ = some (.int .i64 r.z)
  l : ∃ v, w.cell? ⟨p.block, p.off + 4, none⟩ = some v ∧ IsSecs w v r.l
theorem RecAt.keepB {w w' : World} {p : Addr} {r : Rec} (h : RecAt w p r) (q : B w w') : RecAt w' p r :=
  ⟨q.keep h.n, q.keep h.x, q.keep h.y, q.keep h.z, let ⟨v, h1, h2⟩ := h.l; ⟨v, q.keep h1, h2.keepB q⟩⟩
/-- A slice of them. -/
def IsRecs (w : World) (v : Value) (L : List Rec) : Prop :=
  (v = .slice none 0 0 ∧ L = []) ∨
  ∃ (a : Addr) (cap : Nat), v = .slice (some a) L.length cap ∧ L.length ≤ cap ∧ cap ≤ maxLen ∧ ∀ i r, L[i]? = some r → RecAt w (a.add (i * 5)) r
theorem IsRecs.keepB {w w' : World} {v : Value} {L : List Rec} (h : IsRecs w v L) (q : B w w') : IsRecs w' v L := by
  rcases h with h | ⟨a, cap, h1, h2, h3, h4⟩
  · exact .inl h
  · exact .inr ⟨a, cap, h1, h2, h3, fun i r hr => (h4 i r hr).keepB q⟩
theorem IsRecs.form {w : World} {v : Value} {L : List Rec} (h : IsRecs w v L) : ∃ ao cap, v = .slice ao L.length cap := by
  rcases h with ⟨rfl, rfl⟩ | ⟨a, cap, rfl, _⟩
  · exact ⟨_, _, rfl⟩
  · exact ⟨_, _, rfl⟩
theorem IsRecs.at_ {w : World} {v : Value} {L : List Rec} (h : IsRecs w v L) {i : Nat} (hi : i < L.length) : ∃ (a : Addr) (cap : Nat), v = .slice (some a) L.length cap ∧ L.length ≤ cap ∧ cap ≤ maxLen ∧ RecAt w (a.add (i * 5)) L[i] := by
  rcases h with ⟨_, rfl⟩ | ⟨a, cap, h1, h2, h3, h4⟩
  · simp at hi
  · exact ⟨a, cap, h1, h2, h3, h4 i _ (List.getElem?_eq_getElem hi)⟩
theorem B.obj {w w' : World} (h : B w w') {b : Nat} {o : Obj} (ho : w.heap[b]? = some o) : w'.heap[b]? = some o :=
  (h.below.block b (Array.getElem?_eq_some_iff.1 ho).1).trans ho
end Go.Proofs.Ytiblhebenhiijaa

namespace Go.Proofs.Ytiblhebenhiijaa
open Go.RowKit
/-- A ware, a tip: a name, three numbers, a shape. -/
abbrev Wr := Rec
/-- A fill: a well's ware, row, column; how much. -/
structure Fl where
  n : ByteArray
  r : Int
  c : Int
  v : Int
structure Dk where
  ws : List Wr
  ts : List Wr
  fs : List Fl
/-- A section more: of the last ware, of the last tip. -/
def moreR (w : Wr) (s : Sec) : Wr := { w with l := w.l ++ [s] }
def moreW : List Wr → Sec → List Wr
  | [], _ => []
  | [w], s => [moreR w s]
  | w :: ws, s => w :: moreW ws s
def Dk.add (d : Dk) (o : Nat) (s : Sec) : Dk := if o = 1 then { d with ws := moreW d.ws s } else if o = 2 then { d with ts := moreW d.ts s } else d
def tipOk (t : Wr) : Bool := nameS t.n && rightS t.l && inB t.x 1 20000000 && inB t.y 1 60000 && inB t.z 0 10000
end Go.Proofs.Ytiblhebenhiijaa

namespace Go.Proofs.Ytiblhebenhiijaa
open Go.RowKit
set_option linter.unusedVariables false
/-- A number in n parts, the first ones more by one. -/
def evenAt (v : Int) (n i : Nat) : Int := if (i : Int) < v.tmod n then v.tdiv n + 1 else v.tdiv n
def evenL (v : Int) (n : Nat) : List Int := (List.range n).map (evenAt v n)
theorem evenL_len (v : Int) (n : Nat) : (evenL v n).length = n := by unfold evenL; rw [List.length_map, List.length_range]
theorem evenL_take (v : Int) {n i : Nat} (h : i < n) : (evenL v n).take (i + 1) = (evenL v n).take i ++ [evenAt v n i] := by
  rw [List.take_add_one]
  congr 1
  unfold evenL
  rw [List.getElem?_map, List.getElem?_range h]
  rfl
def strokesL (v : Int) : List Int := if v ≤ 0 then [] else evenL v (min v 4).toNat
theorem strokesL_len {v : Int} (h : 0 ≤ v) : ((strokesL v).length : Int) = pcsX v := by
  unfold strokesL pcsX
  split
  · rename_i h0
    have : v = 0 := by omega
    subst this
    rfl
  · rw [evenL_len]
    omega
/-- A tip's parts of a volume. -/
def partsX (t : Rec) (v : Int) : Except Nat (List Int) :=
  if tipOk t then
    (if inB v 1 20000000 then
      (if t.x - 4 * t.z < 1 then .error 33
       else if 1000 < (v + (t.x - 4 * t.z) - 1).tdiv (t.x - 4 * t.z) then .error 33
       else .ok (evenL v ((v + (t.x - 4 * t.z) - 1).tdiv (t.x - 4 * t.z)).toNat))
     else .error 20)
  else .error 28
def cntL (l : List Int) : Int := (l.map (fun x => ((strokesL x).length : Int))).sum
theorem cntL_take (l : List Int) {i : Nat} {x : Int} (h : l[i]? = some x) : cntL (l.take (i + 1)) = cntL (l.take i) + ((strokesL x).length : Int) := by
  unfold cntL
  rw [List.take_add_one, h]
  simp
/-- A row of 64-bit numbers that a call made. -/
def RowZ (w : World) (base : Nat) (v : Value) (l : List Int) : Prop := ∃ o c, v = .slice o l.length c ∧ w.ownsRow base 2 1 (.slice o l.length c) l.length (flatL l)
theorem RowZ.keep {w w' : World} {base : Nat} {v : Value} {l : List Int} (h : RowZ w base v l) (q : B w w') : RowZ w' base v l := by
  obtain ⟨o, c, h1, h2⟩ := h
  exact ⟨o, c, h1, own_keepBx h2 q⟩
theorem RowZ.low {w : World} {b1 b2 : Nat} {v : Value} {l : List Int} (h : RowZ w b1 v l) (hb : b2 ≤ b1) : RowZ w b2 v l := by
  obtain ⟨o, c, h1, h2⟩ := h
  exact ⟨o, c, h1, own_low h2 hb⟩
theorem rowZ_nil (w : World) (base : Nat) : RowZ w base (.slice none 0 0) [] := ⟨none, 0, rfl, World.ownsRow_nil _ _ _ _⟩
def PartsRes (t : Rec) (v : Int) (w : World) (e : Ending) (w' : World) : Prop :=
  (∃ n : Nat, partsX t v = .error n ∧ e = .returned (.tuple #[.slice none 0 0, .int .i64 (n : Int)]) ∧ B w w') ∨
  (∃ l s, partsX t v = .ok l ∧ e = .returned (.tuple #[s, .int .i64 0]) ∧ RowZ w' w.heap.size s l ∧ B w w')
theorem parts_bounds {t : Rec} {v : Int} {l : List Int} (h : partsX t v = .ok l) : l.length ≤ 1000 ∧ ∀ x ∈ l, 0 ≤ x ∧ x ≤ 20000000 := by
  unfold partsX at h
  split at h
  · rename_i hok
    have hx : t.x ≤ 20000000 ∧ 0 ≤ t.z := by
      unfold tipOk at hok
      simp only [Bool.and_eq_true, inB, decide_eq_true_eq] at hok
      omega
    split at h
    · rename_i hin
      have hvv : 1 ≤ v ∧ v ≤ 20000000 := by unfold inB at hin; simp only [Bool.and_eq_true, decide_eq_true_eq] at hin; exact hin
      split at h
      · cases h
      · rename_i hm
        split at h
        · cases h
        · rename_i hp
          cases h
          obtain ⟨p1, p2⟩ := parts_nums (v := v) (m := t.x - 4 * t.z) hvv ⟨by omega, by omega⟩
          generalize (v + (t.x - 4 * t.z) - 1).tdiv (t.x - 4 * t.z) = P at *
          obtain ⟨n, rfl⟩ : ∃ n : Nat, P = (n : Int) := ⟨P.toNat, by omega⟩
          rw [show ((n : Int)).toNat = n by omega]
          refine ⟨by rw [evenL_len]; omega, fun x hx2 => ?_⟩
          unfold evenL at hx2
          obtain ⟨i, hi, rfl⟩ := List.mem_map.1 hx2
          obtain ⟨l1, l2, g1, g2⟩ := even_nums (v := v) (p := (n : Int)) hvv ⟨p1, by omega⟩
          unfold evenAt
          split
          · rename_i hg
            by_cases h1 : n = 1
            · subst h1
              have : v.tmod ((1 : Nat) : Int) < 1 := g2
              omega
            · have h2 : v.tdiv n ≤ v / 2 := by
                rw [Int.tdiv_eq_ediv_of_nonneg (by omega)]
                refine (Int.le_ediv_iff_mul_le (by omega)).2 ?_
                have a1 := Int.mul_ediv_self_le (x := v) (k := (n : Int)) (by omega)
                have a2 : (v / (n : Int)) * 2 ≤ (n : Int) * (v / (n : Int)) := by
                  rw [Int.mul_comm]
                  exact Int.mul_le_mul_of_nonneg_right (by omega) (Int.ediv_nonneg (by omega) (by omega))
                omega
              omega
          · omega
    · cases h
  · cases h
def cntV (x : Except Nat (List Int)) : Value := match x with
  | .ok l => .tuple #[.int .i64 (cntL l), .int .i64 0]
  | .error n => .tuple #[.int .i64 0, .int .i64 (n : Int)]
end Go.Proofs.Ytiblhebenhiijaa

namespace Go.Proofs.Ytiblhebenhiijaa
open Go.RowKit
theorem own_full {w : World} {base : Nat} {e : TypeId} {size n c : Nat} {o : Option Addr} {xs : List Value} (h : w.ownsRow base e size (.slice o n c) n xs) (hn : 0 < n) : ∃ g, o = some ⟨g, 0, none⟩ ∧ base ≤ g ∧ n ≤ c ∧ c ≤ maxLen := by
  rcases h.2 with ⟨h0, _⟩ | ⟨g, cap, cur, h0, hb, _, hnc, hm, _⟩
  · simp only [Value.slice.injEq] at h0; omega
  · simp only [Value.slice.injEq] at h0
    obtain ⟨rfl, _, rfl⟩ := h0
    exact ⟨g, rfl, hb, hnc, hm⟩
end Go.Proofs.Ytiblhebenhiijaa

namespace Go.Proofs.Ytiblhebenhiijaa
open Go.RowKit
set_option linter.unusedVariables false
/-- A shape is answered, in new memory. -/
def Shaped (l : List Sec) (w : World) (e : Ending) (w' : World) : Prop := ∃ v, e = .returned v ∧ IsSecs w' v l ∧ Q w w'
/-- Its numbers fit. -/
def fitsB (l : List Sec) : Bool := l.all fun s => decide (I64 s.h) && decide (I64 s.a0) && decide (I64 s.b0) && decide (I64 s.a1) && decide (I64 s.b1)
theorem fitsB_I {l : List Sec} (h : fitsB l = true) : ∀ s ∈ l, s.I := by
  intro s hs
  have := List.all_eq_true.1 h s hs
  simp only [Bool.and_eq_true, decide_eq_true_eq] at this
  exact ⟨this.1.1.1.1, this.1.1.1.2, this.1.1.2, this.1.2, this.2⟩
end Go.Proofs.Ytiblhebenhiijaa

namespace Go.Proofs.Ytiblhebenhiijaa
open Go.RowKit
theorem u8_wf {k : Int} (w : (Lit.int .u8 k).wf = true) : 0 ≤ k ∧ k ≤ 255 := by
  simp [Lit.wf, IntKind.min, IntKind.max, IntKind.signed, IntKind.bits] at w
  omega
theorem IsSecs.form {w : World} {v : Value} {l : List Sec} (h : IsSecs w v l) : ∃ ao n cap, v = .slice ao n cap := by
  rcases h with ⟨rfl, rfl⟩ | ⟨a, cap, rfl, _⟩
  · exact ⟨_, _, _, rfl⟩
  · exact ⟨_, _, _, rfl⟩
/-- Two right shapes stand in a block. -/
def TwoS (w : World) (b : Nat) : Prop := ∀ m : Nat, m < 2 → ∃ v l, w.cell? ⟨b, m, none⟩ = some v ∧ IsSecs w v l ∧ rightS l = true
theorem TwoS.keep {w w' : World} {b : Nat} (h : TwoS w b) (q : B w w') : TwoS w' b := fun m hm => by
  obtain ⟨v, l, h1, h2, h3⟩ := h m hm
  exact ⟨v, l, q.keep h1, h2.keepB q, h3⟩
theorem u16_wf {k : Int} (w : (Lit.int .u16 k).wf = true) : 0 ≤ k ∧ k ≤ 65535 := by
  simp [Lit.wf, IntKind.min, IntKind.max, IntKind.signed, IntKind.bits] at w
  omega
end Go.Proofs.Ytiblhebenhiijaa
