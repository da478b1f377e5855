/-
  What becomes of the world in a call that turns nothing that was there: new blocks, draws; What lies in blocks that are known: it stays while these do. No program is named here; Plain mathematics of layer 1: what fits 64 bits; signs of bits. No program is named here; Slices of sections: how they lie in memory. No program is named here; Plain facts of sections that may be. No program is named here; Plain mathematics of a division of 128 bits by 64: one digit at a time (base 2^32). No program is named here; Plain mathematics of a product by a number, made whole downwards or upwards. No program is named here; Plain mathematics of tables: areas, bounds of slices, their sums, what lies between. No program is named here; How tables lie in memory; a row that a struct's field holds and that grows. No program is named here; Two rows of sums that a struct's fields hold and that grow, one behind the other: from no row on. No program is named here; The code's tables lie in blocks that are known. No program is named here; What becomes of the world where blocks of known numbers may turn. No program is named here; What becomes of the world where blocks of known kinds may turn, from a base on. No program is named here; Names: which strings are. No program is named here; Words of bytes: which lines of words any bytes are, or the first byte that is none. No program is named here.
-/
import Derived.Lib.Hide
import Derived.WalkKit
import Derived.Laws.Bits64b
import Derived.Maps.OwnSet
import Derived.OwnWalk
import Derived.Laws.OwnMore
import Derived.Deep.AppendLies
import Derived.Lib.BitFns
import Derived.RowKit3
import Derived.Deep.Draws
namespace Go.Proofs.YtflklpflpjdbmaaGreatDoor
open Go.RowKit
/-- The world behind is the one before, but for draws. -/
def Dr (w w' : World) : Prop := ∃ n, w' = w.drewN n
theorem Dr.refl (w : World) : Dr w w := ⟨0, rfl⟩
theorem Dr.trans {a b c : World} (h : Dr a b) (k : Dr b c) : Dr a c := by
  obtain ⟨n, rfl⟩ := h
  obtain ⟨m, rfl⟩ := k
  exact ⟨n + m, World.drewN_drewN _ _ _⟩
/-- New blocks and draws: of what was there nothing turns, and no mark. -/
structure Q (w w' : World) : Prop where
  below : Below w.heap.size w w'
  marks : ∀ a, w'.frozen? a = w.frozen? a
theorem Q.refl (w : World) : Q w w := ⟨Below.refl _ _, fun _ => rfl⟩
theorem Q.trans {a b c : World} (h : Q a b) (k : Q b c) : Q a c :=
  ⟨h.below.trans (k.below.mono h.below.size), fun x => (k.marks x).trans (h.marks x)⟩
theorem Q.drew {a w : World} (h : Q a w) : Q a w.drew := ⟨h.below.drew, h.marks⟩
theorem Q.drewN {a w : World} (h : Q a w) (n : Nat) : Q a (w.drewN n) := ⟨⟨h.below.os, h.below.tape, h.below.output, h.below.size, h.below.block⟩, h.marks⟩
theorem Q.dr {a b c : World} (h : Q a b) (k : Dr b c) : Q a c := by obtain ⟨n, rfl⟩ := k; exact h.drewN n
theorem Dr.q {a b : World} (k : Dr a b) : Q a b := (Q.refl a).dr k
theorem Q.grown {a w : World} (h : Q a w) : Grown a w := ⟨h.below.frame _, h.marks, h.below.size⟩
theorem Q.alloc {a w : World} (h : Q a w) (c : Array Value) (t : TypeId) : Q a (w.alloc (.cells c t)) :=
  ⟨h.below.alloc h.below.size _, fun x => ((Grown.refl w).alloc c t).2.1 x |>.trans (h.marks x)⟩
theorem Q.setCell {a w : World} (h : Q a w) {p : Addr} (hp : a.heap.size ≤ p.block) (v : Value) : Q a (w.setCell p v) :=
  ⟨h.below.setCell hp v, fun x => (World.frozen?_setCell _ _ _ _).trans (h.marks x)⟩
/-- What a cell holds stays. -/
theorem Q.keep {w w' : World} (h : Q w w') {p : Addr} {v : Value} (hc : w.cell? p = some v) : w'.cell? p = some v := by
  rw [h.below.cell (World.block_lt_of_cell? w p hc)]; exact hc
/-- Of what was there nothing turns. (Weaker than Q: it serves behind an append.) -/
structure B (w w' : World) : Prop where
  below : Below w.heap.size w w'
theorem Q.b {w w' : World} (h : Q w w') : B w w' := ⟨h.below⟩
theorem B.refl (w : World) : B w w := ⟨Below.refl _ _⟩
theorem B.trans {a b c : World} (h : B a b) (k : B b c) : B a c := ⟨h.below.trans (k.below.mono h.below.size)⟩
theorem B.drew {a w : World} (h : B a w) : B a w.drew := ⟨h.below.drew⟩
theorem B.drewN {a w : World} (h : B a w) (n : Nat) : B a (w.drewN n) := ⟨⟨h.below.os, h.below.tape, h.below.output, h.below.size, h.below.block⟩⟩
theorem B.alloc {a w : World} (h : B a w) (c : Array Value) (t : TypeId) : B a (w.alloc (.cells c t)) := ⟨h.below.alloc h.below.size _⟩
theorem B.setCell {a w : World} (h : B a w) {p : Addr} (hp : a.heap.size ≤ p.block) (v : Value) : B a (w.setCell p v) := ⟨h.below.setCell hp v⟩
theorem B.keep {w w' : World} (h : B w w') {p : Addr} {v : Value} (hc : w.cell? p = some v) : w'.cell? p = some v := by
  rw [h.below.cell (World.block_lt_of_cell? w p hc)]; exact hc
theorem B.unfrozen {w w' : World} (h : B w w') {p : Addr} {v : Value} (hc : w.cell? p = some v) (hf : w.frozen? p = false) : w'.frozen? p = false := by
  rw [h.below.frozen (World.block_lt_of_cell? w p hc)]; exact hf
theorem B.grownBy {a w w' : World} {row : Option Nat} (h : B a w) (g : w.grownBy w' row) (hr : ∀ k, row = some k → a.heap.size ≤ k) : B a w' :=
  ⟨⟨g.os.trans h.below.os, g.tape.trans h.below.tape, g.output.trans h.below.output, Nat.le_trans h.below.size g.size, fun k hk => by
    rw [g.block k (Nat.lt_of_lt_of_le hk h.below.size) (fun e => by have := hr k e.symm; omega)]
    exact h.below.block k hk⟩⟩
end Go.Proofs.YtflklpflpjdbmaaGreatDoor

namespace Go.Proofs.YtflklpflpjdbmaaGreatDoor
open Go.RowKit
/-- T holds of a world, and of each that has the same blocks from lo up to hi. -/
structure Held (T : World → Prop) (lo hi : Nat) (w : World) : Prop where
  now : T w
  le : hi ≤ w.heap.size
  any : ∀ w', (∀ i, lo ≤ i → i < hi → w'.heap[i]? = w.heap[i]?) → T w'
theorem Held.on {T : World → Prop} {lo hi : Nat} {w w' : World} (h : Held T lo hi w) (hs : w.heap.size ≤ w'.heap.size) (hb : ∀ i, lo ≤ i → i < hi → w'.heap[i]? = w.heap[i]?) : Held T lo hi w' :=
  ⟨h.any w' hb, Nat.le_trans h.le hs, fun w2 h2 => h.any w2 fun i h3 h4 => (h2 i h3 h4).trans (hb i h3 h4)⟩
theorem Held.keepB {T : World → Prop} {lo hi : Nat} {w w' : World} (h : Held T lo hi w) (q : B w w') : Held T lo hi w' :=
  h.on q.below.size fun i _ h2 => q.below.block i (Nat.lt_of_lt_of_le h2 h.le)
end Go.Proofs.YtflklpflpjdbmaaGreatDoor

namespace Go.Proofs.YtflklpflpjdbmaaGreatDoor
open Go.RowKit
/-- An int64 holds it. -/
def I64 (v : Int) : Prop := -9223372036854775808 ≤ v ∧ v ≤ 9223372036854775807
instance (v : Int) : Decidable (I64 v) := inferInstanceAs (Decidable (_ ∧ _))
end Go.Proofs.YtflklpflpjdbmaaGreatDoor

namespace Go.Proofs.YtflklpflpjdbmaaGreatDoor
open Go.RowKit
/-- A section's numbers. -/
structure Sec where
  r : Bool
  h : Int
  a0 : Int
  b0 : Int
  a1 : Int
  b1 : Int
  deriving DecidableEq, Inhabited
/-- Each fits 64 bits. -/
def Sec.I (s : Sec) : Prop := I64 s.h ∧ I64 s.a0 ∧ I64 s.b0 ∧ I64 s.a1 ∧ I64 s.b1
def Sec.cells (s : Sec) : List Value := [.bool s.r, .int .i64 s.h, .int .i64 s.a0, .int .i64 s.b0, .int .i64 s.a1, .int .i64 s.b1]
/-- It lies there. -/
structure SecAt (w : World) (p : Addr) (s : Sec) : Prop where
  r : w.cell? p = some (.bool s.r)
  h : w.cell? ⟨p.block, p.off + 1, none⟩ = some (.int .i64 s.h)
  a0 : w.cell? ⟨p.block, p.off + 2, none⟩ = some (.int .i64 s.a0)
  b0 : w.cell? ⟨p.block, p.off + 3, none⟩ = some (.int .i64 s.b0)
  a1 : w.cell? ⟨p.block, p.off + 4, none⟩ = some (.int .i64 s.a1)
  b1 : w.cell? ⟨p.block, p.off + 5, none⟩ = some (.int .i64 s.b1)
theorem SecAt.keep {w w' : World} {p : Addr} {s : Sec} (h : SecAt w p s) (q : Q w w') : SecAt w' p s :=
  ⟨q.keep h.r, q.keep h.h, q.keep h.a0, q.keep h.b0, q.keep h.a1, q.keep h.b1⟩
/-- The value is a slice of these sections. -/
def IsSecs (w : World) (v : Value) (l : List Sec) : Prop :=
  (v = .slice none 0 0 ∧ l = []) ∨
  ∃ (a : Addr) (cap : Nat), v = .slice (some a) l.length cap ∧ l.length ≤ cap ∧ cap ≤ maxLen ∧ ∀ i s, l[i]? = some s → s.I ∧ SecAt w (a.add (i * 6)) s
theorem SecAt.keepB {w w' : World} {p : Addr} {s : Sec} (h : SecAt w p s) (q : B w w') : SecAt w' p s :=
  ⟨q.keep h.r, q.keep h.h, q.keep h.a0, q.keep h.b0, q.keep h.a1, q.keep h.b1⟩
theorem IsSecs.keepB {w w' : World} {v : Value} {l : List Sec} (h : IsSecs w v l) (q : B w w') : IsSecs w' v l := by
  rcases h with h | ⟨a, cap, h1, h2, h3, h4⟩
  · exact .inl h
  · exact .inr ⟨a, cap, h1, h2, h3, fun i s hs => ⟨(h4 i s hs).1, (h4 i s hs).2.keepB q⟩⟩
theorem IsSecs.keep {w w' : World} {v : Value} {l : List Sec} (h : IsSecs w v l) (q : Q w w') : IsSecs w' v l := by
  rcases h with h | ⟨a, cap, h1, h2, h3, h4⟩
  · exact .inl h
  · exact .inr ⟨a, cap, h1, h2, h3, fun i s hs => ⟨(h4 i s hs).1, (h4 i s hs).2.keep q⟩⟩
/-- All cells of sections, one behind the other. -/
def flat (l : List Sec) : List Value := l.flatMap Sec.cells
theorem flat_get : ∀ (l : List Sec) (i j : Nat) (s : Sec), l[i]? = some s → j < 6 → (flat l)[i * 6 + j]? = s.cells[j]?
  | [], _, _, _, h, _ => by simp at h
  | x :: l, 0, j, s, h, hj => by
    simp at h
    subst h
    show (x.cells ++ flat l)[0 * 6 + j]? = x.cells[j]?
    rw [Nat.zero_mul, Nat.zero_add, List.getElem?_append_left (by simpa [Sec.cells] using hj)]
  | x :: l, i + 1, j, s, h, hj => by
    show (x.cells ++ flat l)[(i + 1) * 6 + j]? = s.cells[j]?
    rw [List.getElem?_append_right (by simp [Sec.cells]; omega)]
    have e : (i + 1) * 6 + j - x.cells.length = i * 6 + j := by simp [Sec.cells]; omega
    rw [e]
    exact flat_get l i j s (by simpa using h) hj
/-- Sections whose cells are a block's first ones. -/
theorem isSecs_cells {w : World} {l : List Sec} {b cap : Nat} (hI : ∀ s ∈ l, s.I) (h1 : l.length ≤ cap) (h2 : cap ≤ maxLen)
    (hc : ∀ k v, (flat l)[k]? = some v → w.cell? ⟨b, k, none⟩ = some v) : IsSecs w (.slice (some ⟨b, 0, none⟩) l.length cap) l := by
  refine .inr ⟨⟨b, 0, none⟩, cap, rfl, h1, h2, fun i s hs => ⟨hI s (List.mem_of_getElem? hs), ?_⟩⟩
  have e : (⟨b, 0, none⟩ : Addr).add (i * 6) = ⟨b, i * 6, none⟩ := by
    unfold Addr.add
    split
    · rename_i h; rw [h]
    · simp
  have g : ∀ j v, j < 6 → s.cells[j]? = some v → w.cell? ⟨b, i * 6 + j, none⟩ = some v := fun j v hj hv => hc _ _ ((flat_get l i j s hs hj).trans hv)
  rw [e]
  exact ⟨g 0 _ (by omega) rfl, g 1 _ (by omega) rfl, g 2 _ (by omega) rfl, g 3 _ (by omega) rfl, g 4 _ (by omega) rfl, g 5 _ (by omega) rfl⟩
/-- A slice of numbers of 16 bits. -/
def IsU16 (w : World) (v : Value) (n : Nat) : Prop :=
  (v = .slice none 0 0 ∧ n = 0) ∨
  ∃ (a : Addr) (cap : Nat), v = .slice (some a) n cap ∧ n ≤ cap ∧ cap ≤ maxLen ∧ ∀ i, i < n → ∃ x : Int, 0 ≤ x ∧ x ≤ 65535 ∧ w.cell? (a.add i) = some (.int .u16 x)
theorem add0 (b k : Nat) : (⟨b, 0, none⟩ : Addr).add k = ⟨b, k, none⟩ := by
  unfold Addr.add
  split
  · rename_i h; rw [h]
  · simp
/-- The sum of heights. -/
def hsumI (l : List Sec) (k : Nat) : Int := (l.take k).foldl (fun t s => t + s.h) 0
theorem hsumI_succ (l : List Sec) (k : Nat) (s : Sec) (h : l[k]? = some s) : hsumI l (k + 1) = hsumI l k + s.h := by
  unfold hsumI
  rw [List.take_add_one, h]
  simp
/-- Is it one of them? (Behind a name: the walk does not look in.) -/
def inB (v a b : Int) : Bool := decide (a ≤ v) && decide (v ≤ b)
/-- A section that may be. -/
def secOk (s : Sec) : Bool := decide (1 ≤ s.h) && decide (s.h ≤ 60000) && decide (s.h.tmod 100 = 0) && inB s.a0 0 20000 && inB s.a1 1 20000 &&
  (if s.r then decide (s.b0 = 0) && decide (s.b1 = 0) else inB s.b0 0 20000 && inB s.b1 1 20000)
def okTo (l : List Sec) (k : Nat) : Bool := (l.take k).all secOk
/-- A shape that may be. -/
def rightS (l : List Sec) : Bool := decide (1 ≤ l.length) && decide (l.length ≤ 4) && l.all secOk && decide (hsumI l l.length ≤ 60000)
theorem okTo_succ (l : List Sec) (k : Nat) (s : Sec) (h : l[k]? = some s) (hk : okTo l k = true) (hs : secOk s = true) : okTo l (k + 1) = true := by
  unfold okTo at *
  rw [List.take_add_one, h]
  simp at hk ⊢
  exact ⟨hk, hs⟩
theorem secOk_h (s : Sec) (h : secOk s = true) : 1 ≤ s.h ∧ s.h ≤ 60000 := by
  unfold secOk at h
  simp only [Bool.and_eq_true, decide_eq_true_eq] at h
  exact ⟨h.1.1.1.1.1, h.1.1.1.1.2⟩
theorem hsum_small (l : List Sec) (k : Nat) (h : okTo l k = true) : 0 ≤ hsumI l k ∧ hsumI l k ≤ 60000 * (k : Int) := by
  induction k with
  | zero => simp [hsumI]
  | succ k ih =>
    cases hg : l[k]? with
    | none =>
      have e1 : l.take (k + 1) = l.take k := by rw [List.take_add_one, hg]; simp
      unfold okTo hsumI at *
      rw [e1] at h ⊢
      have := ih h
      omega
    | some s =>
      have h' : okTo l k = true ∧ secOk s = true := by
        unfold okTo at *
        rw [List.take_add_one, hg] at h
        simpa using h
      have := ih h'.1
      have hs := secOk_h s h'.2
      rw [hsumI_succ l k s hg]
      omega
theorem rightS_short (l : List Sec) (h : l.length < 1) : rightS l = false := by
  unfold rightS
  rw [decide_eq_false (show ¬ 1 ≤ l.length by omega)]
  simp
theorem rightS_long (l : List Sec) (h : 4 < l.length) : rightS l = false := by
  unfold rightS
  rw [decide_eq_false (show ¬ l.length ≤ 4 by omega)]
  simp
theorem rightS_bad (l : List Sec) (k : Nat) (s : Sec) (h : l[k]? = some s) (hs : secOk s = false) : rightS l = false := by
  have : l.all secOk = false := by
    rw [List.all_eq_false]
    exact ⟨s, List.mem_of_getElem? h, by simp [hs]⟩
  unfold rightS
  rw [this]
  simp
theorem rightS_end (l : List Sec) (h1 : 1 ≤ l.length) (h2 : l.length ≤ 4) (h : okTo l l.length = true) : rightS l = decide (hsumI l l.length ≤ 60000) := by
  unfold rightS
  unfold okTo at h
  rw [List.take_length] at h
  rw [decide_eq_true h1, decide_eq_true h2, h]
  simp
theorem secOk_eq (s : Sec) (m : Int) (hm : s.h.tmod 100 = m) : secOk s = (!(decide (s.h < 1)) && !(decide (60000 < s.h)) && !(m != 0) && inB s.a0 0 20000 && inB s.a1 1 20000 &&
    (if s.r then !(s.b0 != 0) && !(s.b1 != 0) else inB s.b0 0 20000 && inB s.b1 1 20000)) := by
  unfold secOk
  rw [hm]
  have e1 : decide (1 ≤ s.h) = !(decide (s.h < 1)) := by
    by_cases h : 1 ≤ s.h
    · rw [decide_eq_true h, decide_eq_false (by omega)]; rfl
    · rw [decide_eq_false h, decide_eq_true (by omega)]; rfl
  have e2 : decide (s.h ≤ 60000) = !(decide (60000 < s.h)) := by
    by_cases h : s.h ≤ 60000
    · rw [decide_eq_true h, decide_eq_false (by omega)]; rfl
    · rw [decide_eq_false h, decide_eq_true (by omega)]; rfl
  have e3 : ∀ x : Int, decide (x = 0) = !(x != 0) := by
    intro x
    by_cases h : x = 0
    · subst h; rfl
    · rw [decide_eq_false h]; simp [h]
  rw [e1, e2, e3, e3, e3]
end Go.Proofs.YtflklpflpjdbmaaGreatDoor

namespace Go.Proofs.YtflklpflpjdbmaaGreatDoor
open Go.RowKit
theorem wrapI {z : Int} (h1 : -9223372036854775808 ≤ z) (h2 : z ≤ 9223372036854775807) : IntKind.i64.wrap z = z := by
  rw [IntKind.wrap_i64]; omega
theorem inB_iff {v a b : Int} : inB v a b = true ↔ a ≤ v ∧ v ≤ b := by unfold inB; simp
theorem secOk_all {s : Sec} (h : secOk s = true) : 1 ≤ s.h ∧ s.h ≤ 60000 ∧ 0 ≤ s.a0 ∧ s.a0 ≤ 20000 ∧ 1 ≤ s.a1 ∧ s.a1 ≤ 20000 ∧ 0 ≤ s.b0 ∧ s.b0 ≤ 20000 ∧ 0 ≤ s.b1 ∧ s.b1 ≤ 20000 ∧ (s.r = true → s.b0 = 0 ∧ s.b1 = 0) := by
  unfold secOk at h
  simp only [Bool.and_eq_true, decide_eq_true_eq, inB_iff] at h
  obtain ⟨⟨⟨⟨⟨h1, h2⟩, _⟩, h4, h5⟩, h6, h7⟩, h8⟩ := h
  cases hr : s.r
  · rw [hr, if_neg (by decide)] at h8
    simp only [Bool.and_eq_true, inB_iff] at h8
    refine ⟨h1, h2, h4, h5, h6, h7, by omega, by omega, by omega, by omega, by simp⟩
  · rw [hr, if_pos rfl] at h8
    simp only [Bool.and_eq_true, decide_eq_true_eq] at h8
    refine ⟨h1, h2, h4, h5, h6, h7, by omega, by omega, by omega, by omega, fun _ => h8⟩
theorem IsU16.form {w : World} {v : Value} {n : Nat} (h : IsU16 w v n) : ∃ ao cap, v = .slice ao n cap ∧ n ≤ 9223372036854775807 := by
  rcases h with ⟨rfl, rfl⟩ | ⟨a, cap, rfl, h1, h2, _⟩
  · exact ⟨_, _, rfl, by omega⟩
  · exact ⟨_, _, rfl, by unfold maxLen at h2; omega⟩
theorem IsU16.keepB {w w' : World} {v : Value} {n : Nat} (h : IsU16 w v n) (q : B w w') : IsU16 w' v n := by
  rcases h with h | ⟨a, cap, h1, h2, h3, h4⟩
  · exact .inl h
  · exact .inr ⟨a, cap, h1, h2, h3, fun i hi => by obtain ⟨x, a1, a2, a3⟩ := h4 i hi; exact ⟨x, a1, a2, q.keep a3⟩⟩
end Go.Proofs.YtflklpflpjdbmaaGreatDoor

namespace Go.Proofs.YtflklpflpjdbmaaGreatDoor
/-- One digit: q is above or at the true digit, and r is what is left of u behind it. -/
structure Dig (u a b c q r : Nat) : Prop where
  rest : u = q * a + r
  up : (u * 4294967296 + c) / (a * 4294967296 + b) ≤ q
  few : q ≤ 4294967297
/-- The true digit is below 2^32. -/
theorem dig_small (u a b c : Nat) (hc : c < 4294967296) (hu : u < a * 4294967296 + b) : (u * 4294967296 + c) / (a * 4294967296 + b) < 4294967296 := by
  rw [Nat.div_lt_iff_lt_mul (by omega)]; omega
/-- The digit is too great: one less, and what is left is more. -/
theorem Dig.next {u a b c q r : Nat} (hc : c < 4294967296) (hu : u < a * 4294967296 + b) (d : Dig u a b c q r) (h : 4294967296 ≤ q ∨ 4294967296 * r + c < q * b) :
    1 ≤ q ∧ Dig u a b c (q - 1) (r + a) := by
  have hs := dig_small u a b c hc hu
  have hq : (u * 4294967296 + c) / (a * 4294967296 + b) < q := by
    rcases h with h | h
    · omega
    · rw [Nat.div_lt_iff_lt_mul (show 0 < a * 4294967296 + b by omega), Nat.mul_add, ← Nat.mul_assoc]
      have := d.rest
      generalize q * a = x at *
      generalize q * b = z at *
      omega
  have hq1 : 0 < q := Nat.lt_of_le_of_lt (Nat.zero_le _) hq
  have hup : (u * 4294967296 + c) / (a * 4294967296 + b) ≤ q - 1 := Nat.le_sub_one_of_lt hq
  obtain ⟨p, rfl⟩ : ∃ p, q = p + 1 := ⟨q - 1, by omega⟩
  refine ⟨by omega, ⟨?_, hup, by have := d.few; omega⟩⟩
  have := d.rest
  rw [Nat.add_mul] at this
  simp only [Nat.add_sub_cancel]
  omega
/-- The digit is right. -/
theorem Dig.done {u a b c q r : Nat} (hb : b < 4294967296) (hu : u < a * 4294967296 + b) (d : Dig u a b c q r) (h : (q < 4294967296 ∧ q * b ≤ 4294967296 * r + c) ∨ (4294967296 ≤ r ∧ q ≤ 4294967296)) :
    q = (u * 4294967296 + c) / (a * 4294967296 + b) := by
  refine Nat.le_antisymm ?_ d.up
  rw [Nat.le_div_iff_mul_le (by omega), Nat.mul_add, ← Nat.mul_assoc]
  have hr := d.rest
  have hz : q * b ≤ 4294967296 * r + c := by
    rcases h with h | h
    · exact h.2
    · have : q * b ≤ 4294967296 * 4294967295 := Nat.mul_le_mul h.2 (by omega)
      omega
  generalize q * a = x at *
  generalize q * b = z at *
  omega
def dr (hi lo y : Nat) : Nat := (hi * 18446744073709551616 + lo) % y
end Go.Proofs.YtflklpflpjdbmaaGreatDoor

namespace Go.Proofs.YtflklpflpjdbmaaGreatDoor
open Go.RowKit
/-- Is the number below nought? By the signs of three. -/
def nb (a b y : Int) : Bool := (decide (a < 0) != decide (b < 0)) != decide (y < 0)
end Go.Proofs.YtflklpflpjdbmaaGreatDoor

namespace Go.Proofs.YtflklpflpjdbmaaGreatDoor
open Go.RowKit
def lowT (L : List (Int × Int)) (k : Nat) : Int := ((L.take k).map Prod.fst).sum
def highT (L : List (Int × Int)) (k : Nat) : Int := ((L.take k).map Prod.snd).sum
inductive AllLe : List (Int × Int) → List (Int × Int) → Prop
  | nil : AllLe [] []
  | cons {x y : Int × Int} {L M : List (Int × Int)} (h1 : x.1 ≤ y.1) (h2 : x.2 ≤ y.2) (h : AllLe L M) : AllLe (x :: L) (y :: M)
theorem AllLe.append {L M L' M' : List (Int × Int)} (h : AllLe L M) (h' : AllLe L' M') : AllLe (L ++ L') (M ++ M') := by
  induction h with
  | nil => exact h'
  | cons h1 h2 _ ih => exact .cons h1 h2 ih
theorem AllLe.map {α : Type} (f g : α → Int × Int) (h : ∀ a, (f a).1 ≤ (g a).1 ∧ (f a).2 ≤ (g a).2) : ∀ l : List α, AllLe (l.map f) (l.map g)
  | [] => .nil
  | a :: l => .cons (h a).1 (h a).2 (AllLe.map f g h l)
theorem AllLe.sums {L M : List (Int × Int)} (h : AllLe L M) : ∀ k, lowT L k ≤ lowT M k ∧ highT L k ≤ highT M k := by
  induction h with
  | nil => intro k; simp [lowT, highT]
  | cons h1 h2 _ ih =>
    intro k
    cases k with
    | zero => simp [lowT, highT]
    | succ k =>
      have := ih k
      unfold lowT highT at *
      simp only [List.take_succ_cons, List.map_cons, List.sum_cons]
      omega
end Go.Proofs.YtflklpflpjdbmaaGreatDoor

namespace Go.Proofs.YtflklpflpjdbmaaGreatDoor
open Go.RowKit
theorem own_block {w w' : World} {B e sz g n c : Nat} {xs : List Value} (h : w.ownsRow B e sz (.slice (some ⟨g, 0, none⟩) n c) n xs) (hb : w'.heap[g]? = w.heap[g]?) : w'.ownsRow B e sz (.slice (some ⟨g, 0, none⟩) n c) n xs := by
  obtain ⟨h1, h0 | ⟨g', cap, cur, hv, h2, h3, r⟩⟩ := h
  · exact ⟨h1, .inl h0⟩
  · simp only [Value.slice.injEq, Option.some.injEq, Addr.mk.injEq] at hv
    obtain ⟨⟨rfl, _⟩, _, rfl⟩ := hv
    exact ⟨h1, .inr ⟨g, c, cur, rfl, h2, hb.trans h3, r⟩⟩
/-- A field of a struct in memory holds a slice that the call owns. -/
structure Half (w : World) (BB bt off e g c : Nat) (xs : List Value) : Prop where
  cell : w.cell? ⟨bt, off, none⟩ = some (.slice (some ⟨g, 0, none⟩) xs.length c)
  fz : w.frozen? ⟨bt, off, none⟩ = false
  own : w.ownsRow BB e 1 (.slice (some ⟨g, 0, none⟩) xs.length c) xs.length xs
  ne : g ≠ bt
  lo : BB ≤ bt
theorem Half.glt {w : World} {BB bt off e g c : Nat} {xs : List Value} (h : Half w BB bt off e g c xs) : BB ≤ g ∧ g < w.heap.size := h.own.lt g rfl
theorem Half.blt {w : World} {BB bt off e g c : Nat} {xs : List Value} (h : Half w BB bt off e g c xs) : bt < w.heap.size := World.block_lt_of_cell? w _ h.cell
theorem Half.blocks {w w' : World} {BB bt off e g c : Nat} {xs : List Value} (h : Half w BB bt off e g c xs) (h1 : w'.heap[bt]? = w.heap[bt]?) (h2 : w'.heap[g]? = w.heap[g]?) : Half w' BB bt off e g c xs :=
  ⟨(World.cell?_of_block (a := ⟨bt, off, none⟩) h1).trans h.cell, (World.frozen?_of_block (a := ⟨bt, off, none⟩) h1).trans h.fz, own_block h.own h2, h.ne, h.lo⟩
theorem Half.keepB {w w' : World} {BB bt off e g c : Nat} {xs : List Value} (h : Half w BB bt off e g c xs) (q : B w w') : Half w' BB bt off e g c xs :=
  h.blocks (q.below.block _ h.blt) (q.below.block _ h.glt.2)
theorem Half.grown {w w' : World} {BB bt off e g c g2 : Nat} {xs : List Value} (h : Half w BB bt off e g c xs) (q : w.grownBy w' (some g2)) (hg : g ≠ g2) (hb : bt ≠ g2) : Half w' BB bt off e g c xs :=
  h.blocks (q.block _ h.blt (by simpa using hb)) (q.block _ h.glt.2 (by simpa using hg))
theorem Half.other {w : World} {BB bt off e g c : Nat} {xs : List Value} (h : Half w BB bt off e g c xs) (off2 : Nat) (hne : off2 ≠ off) (v : Value) : Half (w.setCell ⟨bt, off2, none⟩ v) BB bt off e g c xs :=
  ⟨(World.cell?_setCell_other w ⟨bt, off2, none⟩ ⟨bt, off, none⟩ v (fun e => hne (congrArg Addr.off e))).trans h.cell, (World.frozen?_setCell w _ _ v).trans h.fz, own_block h.own (Below.heap_setCell w ⟨bt, off2, none⟩ v g h.ne), h.ne, h.lo⟩
/-- It has grown, and the field holds it. -/
theorem Half.put {w : World} {BB bt off e g c : Nat} {xs : List Value} (h : w.ownsRow BB e 1 (.slice (some ⟨g, 0, none⟩) xs.length c) xs.length xs) {u : Value} (hc : w.cell? ⟨bt, off, none⟩ = some u) (hf : w.frozen? ⟨bt, off, none⟩ = false) (hne : g ≠ bt) (hlo : BB ≤ bt) :
    Half (w.setCell ⟨bt, off, none⟩ (.slice (some ⟨g, 0, none⟩) xs.length c)) BB bt off e g c xs :=
  ⟨World.cell?_setCell_same w ⟨bt, off, none⟩ _ hc, (World.frozen?_setCell w _ _ _).trans hf, own_block h (Below.heap_setCell w ⟨bt, off, none⟩ _ g hne), hne, hlo⟩
/-- A table: sums of bounds lie there. -/
def RTab (w : World) (p : Value) (L : List (Int × Int)) : Prop :=
  ∃ b aL cL aH cH, p = .pointer (some ⟨b, 0, none⟩) ∧ w.cell? ⟨b, 0, none⟩ = some (.slice (some aL) (L.length + 1) cL) ∧ w.cell? ⟨b, 1, none⟩ = some (.slice (some aH) (L.length + 1) cH) ∧
    (∀ k, k ≤ L.length → w.cell? (aL.add k) = some (.int .i64 (lowT L k))) ∧ (∀ k, k ≤ L.length → w.cell? (aH.add k) = some (.int .i64 (highT L k)))
theorem RTab.keepB {w w' : World} {p : Value} {L : List (Int × Int)} (h : RTab w p L) (q : B w w') : RTab w' p L := by
  obtain ⟨b, aL, cL, aH, cH, h0, h1, h2, h3, h4⟩ := h
  exact ⟨b, aL, cL, aH, cH, h0, q.keep h1, q.keep h2, fun k hk => q.keep (h3 k hk), fun k hk => q.keep (h4 k hk)⟩
end Go.Proofs.YtflklpflpjdbmaaGreatDoor

namespace Go.Proofs.YtflklpflpjdbmaaGreatDoor
open Go.RowKit
theorem own_keep {w w' : World} {B e sz n : Nat} {v : Value} {xs : List Value} (h : w.ownsRow B e sz v n xs) (hb : ∀ g, v.ownBlock = some g → w'.heap[g]? = w.heap[g]?) : w'.ownsRow B e sz v n xs := by
  obtain ⟨h1, h0 | ⟨g, cap, cur, rfl, h2, h3, r⟩⟩ := h
  · exact ⟨h1, .inl h0⟩
  · exact ⟨h1, .inr ⟨g, cap, cur, rfl, h2, (hb g rfl).trans h3, r⟩⟩
theorem cell_set {w : World} {b : Nat} {cs : Array Value} {t : TypeId} {fz : Nat × Nat} (h : w.heap[b]? = some (.cells cs t fz)) (k : Nat) (v : Value) : (w.setCell ⟨b, k, none⟩ v).heap[b]? = some (.cells (cs.setIfInBounds k v) t fz) := by
  simp [World.setCell, Array.getElem?_modify, h]
/-- A field of a struct in memory holds a slice that the call owns, or none. -/
structure Fld (w : World) (BB bt off e : Nat) (v : Value) (xs : List Value) : Prop where
  cell : w.cell? ⟨bt, off, none⟩ = some v
  fz : w.frozen? ⟨bt, off, none⟩ = false
  own : w.ownsRow BB e 1 v xs.length xs
  ne : v.ownBlock ≠ some bt
  lo : BB ≤ bt
  ob : ∃ cs t, w.heap[bt]? = some (.cells cs t (0, 0))
theorem Fld.blt {w : World} {BB bt off e : Nat} {v : Value} {xs : List Value} (h : Fld w BB bt off e v xs) : bt < w.heap.size := World.block_lt_of_cell? w _ h.cell
theorem Fld.blocks {w w' : World} {BB bt off e : Nat} {v : Value} {xs : List Value} (h : Fld w BB bt off e v xs) (h1 : w'.heap[bt]? = w.heap[bt]?) (h2 : ∀ g, v.ownBlock = some g → w'.heap[g]? = w.heap[g]?) : Fld w' BB bt off e v xs :=
  ⟨(World.cell?_of_block (a := ⟨bt, off, none⟩) h1).trans h.cell, (World.frozen?_of_block (a := ⟨bt, off, none⟩) h1).trans h.fz, own_keep h.own h2, h.ne, h.lo, by obtain ⟨cs, t, ho⟩ := h.ob; exact ⟨cs, t, h1.trans ho⟩⟩
theorem Fld.keepB {w w' : World} {BB bt off e : Nat} {v : Value} {xs : List Value} (h : Fld w BB bt off e v xs) (q : B w w') : Fld w' BB bt off e v xs :=
  h.blocks (q.below.block _ h.blt) (fun g hg => q.below.block _ (h.own.lt g hg).2)
theorem Fld.grown {w w' : World} {BB bt off e : Nat} {v : Value} {xs : List Value} {row : Option Nat} (h : Fld w BB bt off e v xs) (q : w.grownBy w' row) (hb : some bt ≠ row) (hg : ∀ g, v.ownBlock = some g → some g ≠ row) : Fld w' BB bt off e v xs :=
  h.blocks (q.block _ h.blt hb) (fun g hg' => q.block _ (h.own.lt g hg').2 (hg g hg'))
theorem Fld.other {w : World} {BB bt off e : Nat} {v : Value} {xs : List Value} (h : Fld w BB bt off e v xs) (off2 : Nat) (hne : off2 ≠ off) (u : Value) : Fld (w.setCell ⟨bt, off2, none⟩ u) BB bt off e v xs :=
  ⟨(World.cell?_setCell_other w ⟨bt, off2, none⟩ ⟨bt, off, none⟩ u (fun e => hne (congrArg Addr.off e))).trans h.cell, (World.frozen?_setCell w _ _ u).trans h.fz, own_keep h.own (fun g hg => Below.heap_setCell w ⟨bt, off2, none⟩ u g (fun e => h.ne (by rw [hg, e]))), h.ne, h.lo, by obtain ⟨cs, t, ho⟩ := h.ob; exact ⟨_, t, cell_set ho off2 u⟩⟩
/-- It has grown, and the field holds it. -/
theorem Fld.put {w : World} {BB bt off e n : Nat} {v : Value} {xs : List Value} (hl : xs.length = n) (h : w.ownsRow BB e 1 v n xs) {u : Value} (hc : w.cell? ⟨bt, off, none⟩ = some u) (hf : w.frozen? ⟨bt, off, none⟩ = false) (hne : v.ownBlock ≠ some bt) (hlo : BB ≤ bt) (ho : ∃ cs t, w.heap[bt]? = some (.cells cs t (0, 0))) :
    Fld (w.setCell ⟨bt, off, none⟩ v) BB bt off e v xs :=
  ⟨World.cell?_setCell_same w ⟨bt, off, none⟩ _ hc, (World.frozen?_setCell w _ _ _).trans hf, hl ▸ own_keep h (fun g hg => Below.heap_setCell w ⟨bt, off, none⟩ _ g (fun e => hne (by rw [hg, e]))), hne, hlo, by obtain ⟨cs, t, ho⟩ := ho; exact ⟨_, t, cell_set ho off v⟩⟩
/-- Both fields: rows apart from one another, and from a block that is to stay (xb). -/
structure Two (w : World) (BB bt e : Nat) (v u : Value) (xs ys : List Value) (xb : Nat) : Prop where
  l : Fld w BB bt 1 e v xs
  h : Fld w BB bt 2 e u ys
  ap : ∀ g, v.ownBlock = some g → u.ownBlock ≠ some g
  xv : v.ownBlock ≠ some xb
  xu : u.ownBlock ≠ some xb
  xt : xb ≠ bt
theorem Two.keepB {w w' : World} {BB bt e xb : Nat} {v u : Value} {xs ys : List Value} (h : Two w BB bt e v u xs ys xb) (q : B w w') : Two w' BB bt e v u xs ys xb :=
  ⟨h.l.keepB q, h.h.keepB q, h.ap, h.xv, h.xu, h.xt⟩
/-- Another block is to stay. -/
theorem Two.stay {w : World} {BB bt e xb : Nat} {v u : Value} {xs ys : List Value} (h : Two w BB bt e v u xs ys xb) (yb : Nat) (hy : w.heap.size ≤ yb) : Two w BB bt e v u xs ys yb :=
  ⟨h.l, h.h, h.ap, fun e => by have := (h.l.own.lt _ e).2; omega, fun e => by have := (h.h.own.lt _ e).2; omega, by have := h.l.blt; omega⟩
/-- The code's table: sums of bounds lie there, one a slice. -/
def CTab (w : World) (p : Value) (L : List (Int × Int)) : Prop :=
  ∃ b aL cL aH cH, 1 ≤ L.length ∧ p = .pointer (some ⟨b, 0, none⟩) ∧ w.cell? ⟨b, 0, none⟩ = some (.int .i64 (L.length * 100)) ∧ w.cell? ⟨b, 1, none⟩ = some (.slice (some aL) L.length cL) ∧ w.cell? ⟨b, 2, none⟩ = some (.slice (some aH) L.length cH) ∧
    (∀ k, k < L.length → w.cell? (aL.add k) = some (.int .i64 (lowT L (k + 1)))) ∧ (∀ k, k < L.length → w.cell? (aH.add k) = some (.int .i64 (highT L (k + 1))))
theorem CTab.keepB {w w' : World} {p : Value} {L : List (Int × Int)} (h : CTab w p L) (q : B w w') : CTab w' p L := by
  obtain ⟨b, aL, cL, aH, cH, hn, h0, hh, h1, h2, h3, h4⟩ := h
  exact ⟨b, aL, cL, aH, cH, hn, h0, q.keep hh, q.keep h1, q.keep h2, fun k hk => q.keep (h3 k hk), fun k hk => q.keep (h4 k hk)⟩
end Go.Proofs.YtflklpflpjdbmaaGreatDoor

namespace Go.Proofs.YtflklpflpjdbmaaGreatDoor
open Go.RowKit
/-- A table that lies in blocks from lo up to hi alone. -/
structure TabN (T : World → Value → List (Int × Int) → Prop) (lo hi : Nat) (w : World) (p : Value) (L : List (Int × Int)) : Prop where
  held : Held (fun w => T w p L) lo hi w
  at_ : ∃ b, p = .pointer (some ⟨b, 0, none⟩) ∧ lo ≤ b ∧ b < hi
  ob : ∀ b, p = .pointer (some ⟨b, 0, none⟩) → ∃ cs t, w.heap[b]? = some (.cells cs t (0, 0))
theorem TabN.on {T : World → Value → List (Int × Int) → Prop} {lo hi : Nat} {w w' : World} {p : Value} {L : List (Int × Int)} (h : TabN T lo hi w p L) (hs : w.heap.size ≤ w'.heap.size) (hb : ∀ i, lo ≤ i → i < hi → w'.heap[i]? = w.heap[i]?) : TabN T lo hi w' p L :=
  ⟨h.held.on hs hb, h.at_, fun b e => by
    obtain ⟨cs, t, ho⟩ := h.ob b e
    obtain ⟨b', e', h1, h2⟩ := h.at_
    have : b = b' := by rw [e] at e'; simpa using e'
    exact ⟨cs, t, (hb b (by omega) (by omega)).trans ho⟩⟩
theorem TabN.keepB {T : World → Value → List (Int × Int) → Prop} {lo hi : Nat} {w w' : World} {p : Value} {L : List (Int × Int)} (h : TabN T lo hi w p L) (q : B w w') : TabN T lo hi w' p L :=
  h.on q.below.size fun i _ h2 => q.below.block i (Nat.lt_of_lt_of_le h2 h.held.le)
end Go.Proofs.YtflklpflpjdbmaaGreatDoor

namespace Go.Proofs.YtflklpflpjdbmaaGreatDoor
open Go.RowKit
/-- Of what was there nothing turns but blocks of S. -/
structure G (S : Nat → Prop) (w w' : World) : Prop where
  os : w'.os = w.os
  tape : w'.tape = w.tape
  output : w'.output = w.output
  size : w.heap.size ≤ w'.heap.size
  block : ∀ i, i < w.heap.size → ¬ S i → w'.heap[i]? = w.heap[i]?
theorem G.refl (S : Nat → Prop) (w : World) : G S w w := ⟨rfl, rfl, rfl, Nat.le_refl _, fun _ _ _ => rfl⟩
theorem G.trans {S : Nat → Prop} {a b c : World} (h : G S a b) (k : G S b c) : G S a c :=
  ⟨k.os.trans h.os, k.tape.trans h.tape, k.output.trans h.output, Nat.le_trans h.size k.size, fun i hi hs => (k.block i (Nat.lt_of_lt_of_le hi h.size) hs).trans (h.block i hi hs)⟩
theorem B.g {w w' : World} (h : B w w') (S : Nat → Prop) : G S w w' := ⟨h.below.os, h.below.tape, h.below.output, h.below.size, fun i hi _ => h.below.block i hi⟩
theorem G.below {S : Nat → Prop} {w w' : World} (h : G S w w') {BB : Nat} (hS : ∀ i, S i → BB ≤ i) (hB : BB ≤ w.heap.size) : Below BB w w' :=
  ⟨h.os, h.tape, h.output, h.size, fun k hk => h.block k (by omega) (fun hs => by have := hS k hs; omega)⟩
theorem G.b {S : Nat → Prop} {W w w' : World} (h : G S w w') (hb : B W w) (hS : ∀ i, S i → W.heap.size ≤ i) : B W w' := ⟨hb.below.trans (h.below hS hb.below.size)⟩
theorem G.mono {S S' : Nat → Prop} {w w' : World} (h : G S w w') (hS : ∀ i, i < w.heap.size → S i → S' i) : G S' w w' :=
  ⟨h.os, h.tape, h.output, h.size, fun i hi hs => h.block i hi (fun h1 => hs (hS i hi h1))⟩
theorem G.drew {S : Nat → Prop} {a w : World} (h : G S a w) : G S a w.drew := ⟨h.os, h.tape, h.output, h.size, h.block⟩
theorem G.alloc {S : Nat → Prop} {a w : World} (h : G S a w) (o : Obj) : G S a (w.alloc o) :=
  h.trans ⟨rfl, rfl, rfl, by simp, fun i hi _ => Below.heap_alloc _ _ _ hi⟩
theorem G.setCell {S : Nat → Prop} {a w : World} (h : G S a w) {p : Addr} (hp : S p.block ∨ a.heap.size ≤ p.block) (v : Value) : G S a (w.setCell p v) :=
  ⟨h.os, h.tape, h.output, by simpa [World.setCell] using h.size, fun i hi hs => by
    rw [Below.heap_setCell w p v i (fun e => by rcases hp with hp | hp; exact hs (e ▸ hp); omega)]
    exact h.block i hi hs⟩
theorem G.grown {S : Nat → Prop} {a w w' : World} {row : Option Nat} (h : G S a w) (g : w.grownBy w' row) (hr : ∀ k, row = some k → S k ∨ a.heap.size ≤ k) : G S a w' :=
  ⟨g.os.trans h.os, g.tape.trans h.tape, g.output.trans h.output, Nat.le_trans h.size g.size, fun i hi hs => by
    rw [g.block i (Nat.lt_of_lt_of_le hi h.size) (fun e => by rcases hr i e.symm with h1 | h1; exact hs h1; omega)]
    exact h.block i hi hs⟩
theorem G.keep {S : Nat → Prop} {w w' : World} (h : G S w w') {p : Addr} {v : Value} (hp : ¬ S p.block) (hc : w.cell? p = some v) : w'.cell? p = some v :=
  (World.cell?_of_block (w := w) (h.block p.block (World.block_lt_of_cell? w p hc) hp)).trans hc
theorem G.unfrozen {S : Nat → Prop} {w w' : World} (h : G S w w') {p : Addr} {v : Value} (hp : ¬ S p.block) (hc : w.cell? p = some v) (hf : w.frozen? p = false) : w'.frozen? p = false :=
  (World.frozen?_of_block (w := w) (h.block p.block (World.block_lt_of_cell? w p hc) hp)).trans hf
theorem G.obj {S : Nat → Prop} {w w' : World} (h : G S w w') {b : Nat} {o : Obj} (hb : ¬ S b) (ho : w.heap[b]? = some o) : w'.heap[b]? = some o :=
  (h.block b (Array.getElem?_eq_some_iff.1 ho).1 hb).trans ho
theorem G.held {S : Nat → Prop} {T : World → Prop} {lo hi : Nat} {w w' : World} (h : G S w w') (k : Held T lo hi w) (hS : ∀ i, lo ≤ i → i < hi → ¬ S i) : Held T lo hi w' :=
  k.on h.size fun i h1 h2 => h.block i (Nat.lt_of_lt_of_le h2 k.le) (hS i h1 h2)
theorem obj_lt {w : World} {b : Nat} {o : Obj} (h : w.heap[b]? = some o) : b < w.heap.size := (Array.getElem?_eq_some_iff.1 h).1
theorem obj_cell {w : World} {b : Nat} {cs : Array Value} {t : TypeId} {fz : Nat × Nat} (h : w.heap[b]? = some (.cells cs t fz)) (k : Nat) : w.cell? ⟨b, k, none⟩ = cs[k]? := by
  simp [World.cell?, h]
theorem obj_free {w : World} {b : Nat} {cs : Array Value} {t : TypeId} (h : w.heap[b]? = some (.cells cs t (0, 0))) (k : Nat) : w.frozen? ⟨b, k, none⟩ = false := by
  simp [World.frozen?, h]
theorem obj_set {w : World} {b : Nat} {cs : Array Value} {t : TypeId} {fz : Nat × Nat} (h : w.heap[b]? = some (.cells cs t fz)) (k : Nat) (v : Value) : (w.setCell ⟨b, k, none⟩ v).heap[b]? = some (.cells (cs.setIfInBounds k v) t fz) := by
  simp [World.setCell, Array.getElem?_modify, h]
theorem obj_new (w : World) (o : Obj) : (w.alloc o).heap[w.heap.size]? = some o := by
  show (w.heap.push o)[w.heap.size]? = some o
  simp
theorem obj_past {w : World} {b : Nat} {o : Obj} (h : w.heap[b]? = some o) (o' : Obj) : (w.alloc o').heap[b]? = some o :=
  (Below.heap_alloc w o' b (obj_lt h)).trans h
end Go.Proofs.YtflklpflpjdbmaaGreatDoor

namespace Go.Proofs.YtflklpflpjdbmaaGreatDoor
open Go.RowKit
/-- What a block is: cells of a type, or a map. -/
def kindO : Obj → Option (Option TypeId)
  | .cells _ t (0, 0) => some (some t)
  | .map _ _ => some none
  | _ => none
/-- Of what was there nothing turns but blocks from the base on, of known kinds; and they stay what they are. -/
structure Tn (K : List (Option TypeId)) (base : Nat) (w w' : World) : Prop where
  os : w'.os = w.os
  tape : w'.tape = w.tape
  output : w'.output = w.output
  size : w.heap.size ≤ w'.heap.size
  block : ∀ i, i < w.heap.size → w'.heap[i]? = w.heap[i]? ∨ (base ≤ i ∧ ∃ k o, k ∈ K ∧ w.heap[i]? = some o ∧ kindO o = some k)
section
variable {K : List (Option TypeId)} {base : Nat} {a b c w w' : World}
theorem Tn.refl (K : List (Option TypeId)) (base : Nat) (w : World) : Tn K base w w := ⟨rfl, rfl, rfl, Nat.le_refl _, fun _ _ => .inl rfl⟩
theorem Tn.trans (h : Tn K base a b) (k : Tn K base b c) : Tn K base a c := by
  refine ⟨k.os.trans h.os, k.tape.trans h.tape, k.output.trans h.output, Nat.le_trans h.size k.size, fun i hi => ?_⟩
  rcases h.block i hi with h1 | h1
  · rcases k.block i (Nat.lt_of_lt_of_le hi h.size) with k1 | ⟨k1, q', p, hq', k2, k3⟩
    · exact .inl (k1.trans h1)
    · exact .inr ⟨k1, q', p, hq', h1 ▸ k2, k3⟩
  · exact .inr h1
theorem Tn.mono {K' : List (Option TypeId)} {base' : Nat} (h : Tn K base a b) (hK : ∀ k ∈ K, k ∈ K') (hb : base' ≤ base) : Tn K' base' a b :=
  ⟨h.os, h.tape, h.output, h.size, fun i hi => (h.block i hi).imp id fun ⟨h1, k, o, h2, h3⟩ => ⟨by omega, k, o, hK k h2, h3⟩⟩
theorem B.tn (h : B a b) (K : List (Option TypeId)) (base : Nat) : Tn K base a b := ⟨h.below.os, h.below.tape, h.below.output, h.below.size, fun i hi => .inl (h.below.block i hi)⟩
theorem Tn.below (h : Tn K base a b) {B0 : Nat} (hb : B0 ≤ base) (hs : B0 ≤ a.heap.size) : Below B0 a b :=
  ⟨h.os, h.tape, h.output, h.size, fun k hk => (h.block k (by omega)).elim id fun ⟨h1, _⟩ => by omega⟩
theorem Tn.toB {W : World} (h : Tn K base a b) (hB : B W a) (hb : W.heap.size ≤ base) : B W b := ⟨hB.below.trans (h.below hb hB.below.size)⟩
/-- A block of another kind stays. -/
theorem Tn.obj (h : Tn K base a b) {i : Nat} {o : Obj} (ho : a.heap[i]? = some o) (hk : ∀ k ∈ K, kindO o ≠ some k) : b.heap[i]? = some o := by
  rcases h.block i (Array.getElem?_eq_some_iff.1 ho).1 with h1 | ⟨_, k, p, h1, h2, h3⟩
  · exact h1.trans ho
  · obtain rfl : p = o := Option.some.inj (h2.symm.trans ho)
    exact absurd h3 (hk k h1)
theorem Tn.objc (h : Tn K base a b) {i : Nat} {cs : Array Value} {t : TypeId} (ho : a.heap[i]? = some (.cells cs t (0, 0))) (hK : some t ∉ K) : b.heap[i]? = some (.cells cs t (0, 0)) :=
  h.obj ho fun k hk e => by
    have : some t = k := Option.some.inj e
    exact hK (this ▸ hk)
theorem Tn.objm (h : Tn K base a b) {i : Nat} {es : Array MapEntry} {c : Nat} (ho : a.heap[i]? = some (.map es c)) (hK : none ∉ K) : b.heap[i]? = some (.map es c) :=
  h.obj ho fun k hk e => by
    have : none = k := Option.some.inj e
    exact hK (this ▸ hk)
theorem Tn.dr (h : Tn K base a b) (k : Dr b c) : Tn K base a c := by
  obtain ⟨n, rfl⟩ := k
  exact ⟨h.os, h.tape, h.output, h.size, h.block⟩
theorem Tn.drew (h : Tn K base a b) : Tn K base a b.drew := ⟨h.os, h.tape, h.output, h.size, h.block⟩
theorem Tn.drewN (h : Tn K base a b) (n : Nat) : Tn K base a (b.drewN n) := h.trans (((B.refl b).drewN n).tn K base)
theorem Tn.alloc (h : Tn K base a b) (cs : Array Value) (t : TypeId) : Tn K base a (b.alloc (.cells cs t)) := h.trans (((B.refl b).alloc cs t).tn K base)
theorem Tn.set (h : Tn K base a b) {p : Addr} {cs : Array Value} {t : TypeId} (ho : b.heap[p.block]? = some (.cells cs t (0, 0))) (hK : some t ∈ K) (hb : base ≤ p.block) (v : Value) : Tn K base a (b.setCell p v) := by
  refine h.trans ⟨rfl, rfl, rfl, by simp [World.setCell], fun i hi => ?_⟩
  by_cases e : i = p.block
  · subst e
    exact .inr ⟨hb, some t, .cells cs t (0, 0), hK, ho, rfl⟩
  · exact .inl (Below.heap_setCell _ _ _ _ e)
theorem Tn.setNew (h : Tn K base a b) {p : Addr} (hp : a.heap.size ≤ p.block) (v : Value) : Tn K base a (b.setCell p v) :=
  ⟨h.os, h.tape, h.output, by simpa [World.setCell] using h.size, fun i hi => by
    rw [Below.heap_setCell b p v i (by omega)]
    exact h.block i hi⟩
theorem set3_other (w : World) (q i : Nat) (x y z : Value) (h : i ≠ q) : (((w.setCell ⟨q, 0, none⟩ x).setCell ⟨q, 1, none⟩ y).setCell ⟨q, 2, none⟩ z).heap[i]? = w.heap[i]? := by
  rw [Below.heap_setCell _ ⟨q, 2, none⟩ _ _ h, Below.heap_setCell _ ⟨q, 1, none⟩ _ _ h, Below.heap_setCell _ ⟨q, 0, none⟩ _ _ h]
/-- The object of an own row. -/
theorem ownsRow_obj {base : Nat} {e : TypeId} {size n : Nat} {v : Value} {xs : List Value} (h : w.ownsRow base e size v n xs) {i : Nat} (hi : v.ownBlock = some i) : base ≤ i ∧ ∃ cs, w.heap[i]? = some (.cells cs e (0, 0)) := by
  rcases h.2 with ⟨rfl, _⟩ | ⟨g, cap, cur, rfl, hb, hg, _⟩
  · simp [Value.ownBlock] at hi
  · obtain rfl : g = i := by simpa [Value.ownBlock] using hi
    exact ⟨hb, cur, hg⟩
theorem Tn.appended (h : Tn K base a b) {base' : Nat} {e : TypeId} {size n : Nat} {v : Value} {xs : List Value} (ho : b.ownsRow base' e size v n xs)
    (g : b.grownBy c v.ownBlock) (hb : base ≤ base') (hK : some e ∈ K) : Tn K base a c := by
  refine h.trans ⟨g.os, g.tape, g.output, g.size, fun i hi => ?_⟩
  by_cases he : some i = v.ownBlock
  · obtain ⟨h1, cs, h2⟩ := ownsRow_obj ho he.symm
    exact .inr ⟨by omega, some e, _, hK, h2, rfl⟩
  · exact .inl (g.block i hi he)
/-- Rows of two types lie apart. -/
theorem rows_apart {b1 b2 : Nat} {e1 e2 : TypeId} {s1 s2 n1 n2 : Nat} {v1 v2 : Value} {x1 x2 : List Value} (h1 : w.ownsRow b1 e1 s1 v1 n1 x1) (h2 : w.ownsRow b2 e2 s2 v2 n2 x2) (he : e1 ≠ e2) : v1.ownBlock = none ∨ v1.ownBlock ≠ v2.ownBlock := by
  cases hv : v1.ownBlock with
  | none => exact .inl rfl
  | some i =>
    right
    intro e
    obtain ⟨_, cs, h3⟩ := ownsRow_obj h1 hv
    obtain ⟨_, cs', h4⟩ := ownsRow_obj h2 e.symm
    rw [h3] at h4
    cases h4
    exact he rfl
theorem obj_apart {b2 : Nat} {e2 : TypeId} {s2 n2 : Nat} {v2 : Value} {x2 : List Value} {i : Nat} {o : Obj} (ho : w.heap[i]? = some o) (h2 : w.ownsRow b2 e2 s2 v2 n2 x2) (he : kindO o ≠ some (some e2)) : v2.ownBlock ≠ some i := by
  intro e
  obtain ⟨_, cs', h4⟩ := ownsRow_obj h2 e
  rw [ho] at h4
  cases h4
  exact he rfl
theorem obj_grown {row : Option Nat} (g : w.grownBy w' row) {i : Nat} {o : Obj} (ho : w.heap[i]? = some o) (hr : row ≠ some i) : w'.heap[i]? = some o :=
  (g.block i (Array.getElem?_eq_some_iff.1 ho).1 (fun e => hr e.symm)).trans ho
end
end Go.Proofs.YtflklpflpjdbmaaGreatDoor

namespace Go.Proofs.YtflklpflpjdbmaaGreatDoor
open Go.RowKit
/-- The i-th byte. -/
def byteAt (s : ByteArray) (i : Nat) : Nat := (s.data.toList.getD i 0).toNat
def lowN (n : Nat) : Bool := decide (97 ≤ n) && decide (n ≤ 122)
def digN (n : Nat) : Bool := decide (48 ≤ n) && decide (n ≤ 57)
/-- A name: a letter, then letters and digits, sixteen at most. -/
def nameS (s : ByteArray) : Bool := decide (1 ≤ s.size) && decide (s.size ≤ 16) && lowN (byteAt s 0) && (List.range s.size).all fun i => lowN (byteAt s i) || digN (byteAt s i)
theorem byteAt_get (s : ByteArray) (i : Nat) (h : i < s.size) : (s[i]'h).toNat = byteAt s i := by
  obtain ⟨⟨l⟩⟩ := s
  have h' : i < l.length := h
  show l[i].toNat = (l.getD i 0).toNat
  rw [List.getD_eq_getElem?_getD, List.getElem?_eq_getElem h']
  rfl
theorem nameS_size {s : ByteArray} (h : s.size < 1 ∨ 16 < s.size) : nameS s = false := by
  unfold nameS
  rcases h with h | h
  · rw [decide_eq_false (show ¬ 1 ≤ s.size by omega)]; simp
  · rw [decide_eq_false (show ¬ s.size ≤ 16 by omega)]; simp
theorem nameS_first {s : ByteArray} (h : lowN (byteAt s 0) = false) : nameS s = false := by
  unfold nameS; rw [h]; simp
theorem nameS_bad {s : ByteArray} {i : Nat} (hi : i < s.size) (h : (lowN (byteAt s i) || digN (byteAt s i)) = false) : nameS s = false := by
  have : ((List.range s.size).all fun i => lowN (byteAt s i) || digN (byteAt s i)) = false := by
    rw [List.all_eq_false]
    exact ⟨i, List.mem_range.2 hi, by simpa using h⟩
  unfold nameS; rw [this]; simp
theorem nameS_good {s : ByteArray} (h1 : 1 ≤ s.size) (h2 : s.size ≤ 16) (h3 : lowN (byteAt s 0) = true) (h : ∀ i, i < s.size → (lowN (byteAt s i) || digN (byteAt s i)) = true) : nameS s = true := by
  unfold nameS
  rw [decide_eq_true h1, decide_eq_true h2, h3]
  simp only [Bool.true_and]
  exact List.all_eq_true.2 fun i hi => h i (List.mem_range.1 hi)
end Go.Proofs.YtflklpflpjdbmaaGreatDoor

namespace Go.Proofs.YtflklpflpjdbmaaGreatDoor
open Go.RowKit
/-- A word: where, and its bytes. -/
abbrev Wd := Nat × List UInt8
def capN (n : Nat) : Bool := decide (65 ≤ n) && decide (n ≤ 90)
def partN (n : Nat) : Bool := lowN n || capN n || digN n || decide (n = 46)
def kindN (n : Nat) : Nat := if lowN n then 1 else if capN n then 2 else if digN n then 3 else if n = 46 then 4 else if n = 32 ∨ n = 9 then 5 else if n = 10 then 6 else if n = 35 then 7 else 0
/-- A word that has ended ahead of place p. -/
def flushW (line : List Wd) (p : Nat) (w : List UInt8) : List Wd := if w = [] then line else line ++ [(p - w.length, w)]
def flushL (out : List (List Wd)) (line : List Wd) : List (List Wd) := if line = [] then out else out ++ [line]
/-- Bytes from place p on, behind lines, words of a line, bytes of a word, or in a comment. -/
def scan : List UInt8 → Nat → List (List Wd) → List Wd → List UInt8 → Bool → List (List Wd) × Nat × Nat
  | [], p, out, line, w, _ => (flushL out (flushW line p w), 0, 0)
  | c :: cs, p, out, line, w, note =>
    if c.toNat = 10 then scan cs (p + 1) (flushL out (flushW line p w)) [] [] false
    else if note then scan cs (p + 1) out line [] true
    else if partN c.toNat then scan cs (p + 1) out line (w ++ [c]) false
    else if c.toNat = 35 then scan cs (p + 1) out (flushW line p w) [] true
    else if c.toNat = 32 ∨ c.toNat = 9 then scan cs (p + 1) out (flushW line p w) [] false
    else ([], p, 24)
def linesB (bs : List UInt8) : List (List Wd) × Nat × Nat := if 65536 < bs.length then ([], 65536, 27) else scan bs 0 [] [] [] false
theorem drop_at {bs : List UInt8} {i : Nat} {c : UInt8} (h : bs[i]? = some c) : bs.drop i = c :: bs.drop (i + 1) := by
  obtain ⟨hi, rfl⟩ := List.getElem?_eq_some_iff.1 h
  rw [List.drop_eq_getElem_cons hi]
theorem drop_end {bs : List UInt8} {i : Nat} (h : bs.length ≤ i) : bs.drop i = [] := List.drop_eq_nil_of_le h
section
variable {bs : List UInt8} {p : Nat} {c : UInt8} {out : List (List Wd)} {line : List Wd} {w : List UInt8} {note : Bool}
theorem scan_end (h : bs.length ≤ p) {q : Nat} : scan (bs.drop p) q out line w note = (flushL out (flushW line q w), 0, 0) := by
  rw [drop_end h]; rfl
theorem scan_feed (h : bs[p]? = some c) (hc : c.toNat = 10) : scan (bs.drop p) p out line w note = scan (bs.drop (p + 1)) (p + 1) (flushL out (flushW line p w)) [] [] false := by
  rw [drop_at h, scan, if_pos hc]
theorem scan_note (h : bs[p]? = some c) (hc : c.toNat ≠ 10) : scan (bs.drop p) p out line [] true = scan (bs.drop (p + 1)) (p + 1) out line [] true := by
  rw [drop_at h, scan, if_neg hc, if_pos rfl]
theorem part_cases {n : Nat} (h : partN n = true) : n ≠ 10 ∧ n ≠ 35 ∧ n ≠ 32 ∧ n ≠ 9 := by
  refine ⟨?_, ?_, ?_, ?_⟩ <;> · rintro rfl; exact absurd h (by decide)
theorem scan_part (h : bs[p]? = some c) (hc : partN c.toNat = true) : scan (bs.drop p) p out line w false = scan (bs.drop (p + 1)) (p + 1) out line (w ++ [c]) false := by
  rw [drop_at h, scan, if_neg (part_cases hc).1, if_neg (by decide), if_pos hc]
theorem scan_hash (h : bs[p]? = some c) (hc : c.toNat = 35) : scan (bs.drop p) p out line w false = scan (bs.drop (p + 1)) (p + 1) out (flushW line p w) [] true := by
  rw [drop_at h, scan, if_neg (by omega), if_neg (by decide), if_neg (by rw [hc]; decide), if_pos hc]
theorem scan_gap (h : bs[p]? = some c) (hc : c.toNat = 32 ∨ c.toNat = 9) : scan (bs.drop p) p out line w false = scan (bs.drop (p + 1)) (p + 1) out (flushW line p w) [] false := by
  rw [drop_at h, scan, if_neg (by omega), if_neg (by decide), if_neg (by rcases hc with e | e <;> rw [e] <;> decide), if_neg (by omega), if_pos hc]
theorem scan_bad (h : bs[p]? = some c) (h1 : c.toNat ≠ 10) (h2 : partN c.toNat = false) (h3 : c.toNat ≠ 35) (h4 : ¬ (c.toNat = 32 ∨ c.toNat = 9)) : scan (bs.drop p) p out line w false = ([], p, 24) := by
  rw [drop_at h, scan, if_neg h1, if_neg (by decide), if_neg (by rw [h2]; decide), if_neg h3, if_neg h4]
/-- A word ends where no byte of one comes. -/
theorem scan_word (h : bs.length ≤ p ∨ ∃ c, bs[p]? = some c ∧ partN c.toNat = false) (hw : w ≠ []) : scan (bs.drop p) p out line w false = scan (bs.drop p) p out (line ++ [(p - w.length, w)]) [] false := by
  have e : flushW line p w = line ++ [(p - w.length, w)] := if_neg hw
  have e2 : ∀ l : List Wd, flushW l p [] = l := fun l => if_pos rfl
  rcases h with h | ⟨c, h, hc⟩
  · rw [scan_end h, scan_end h, e, e2]
  · rw [drop_at h]
    unfold scan
    rw [e, e2, hc]
    simp
/-- Behind a comment's end nothing is left of it. -/
theorem scan_noted (h : bs.length ≤ p ∨ ∃ c, bs[p]? = some c ∧ c.toNat = 10) : scan (bs.drop p) p out line [] true = scan (bs.drop p) p out line [] false := by
  rcases h with h | ⟨c, h, hc⟩
  · rw [scan_end h, scan_end h]
  · rw [scan_feed h hc, scan_feed h hc]
/-- A comment, from place p up to place q. -/
theorem scan_skip {q : Nat} (hpq : p ≤ q) (hq : q ≤ bs.length) (h : ∀ i, p ≤ i → i < q → ∀ c, bs[i]? = some c → c.toNat ≠ 10) : scan (bs.drop p) p out line [] true = scan (bs.drop q) q out line [] true := by
  obtain ⟨d, rfl⟩ : ∃ d, q = p + d := ⟨q - p, by omega⟩
  clear hpq
  induction d with
  | zero => rfl
  | succ d ih =>
    rw [ih (by omega) (fun i h1 h2 => h i h1 (by omega))]
    have hg : bs[p + d]? = some bs[p + d] := List.getElem?_eq_getElem (by omega)
    rw [scan_note hg (h _ (by omega) (by omega) _ hg)]
    rfl
end
/-- The bytes from place i up to place k. -/
def cut (bs : List UInt8) (i k : Nat) : List UInt8 := (bs.drop i).take (k - i)
theorem cut_len {bs : List UInt8} {i k : Nat} (h : i ≤ k) (hk : k ≤ bs.length) : (cut bs i k).length = k - i := by
  unfold cut; rw [List.length_take, List.length_drop]; omega
theorem cut_none (bs : List UInt8) (i : Nat) : cut bs i i = [] := by unfold cut; simp
theorem cut_succ {bs : List UInt8} {i k : Nat} {c : UInt8} (h : i ≤ k) (hg : bs[k]? = some c) : cut bs i (k + 1) = cut bs i k ++ [c] := by
  unfold cut
  rw [show k + 1 - i = (k - i) + 1 by omega, List.take_add_one, List.getElem?_drop, show i + (k - i) = k by omega, hg]
  rfl
theorem scan_run {bs : List UInt8} {i k : Nat} {out : List (List Wd)} {line : List Wd} (hik : i ≤ k) (hk : k ≤ bs.length) (h : ∀ j, i ≤ j → j < k → ∀ c, bs[j]? = some c → partN c.toNat = true) :
    scan (bs.drop i) i out line [] false = scan (bs.drop k) k out line (cut bs i k) false := by
  obtain ⟨d, rfl⟩ : ∃ d, k = i + d := ⟨k - i, by omega⟩
  clear hik
  induction d with
  | zero => rw [Nat.add_zero, cut_none]
  | succ d ih =>
    have hg : bs[i + d]? = some bs[i + d] := List.getElem?_eq_getElem (by omega)
    rw [ih (by omega) (fun j h1 h2 => h j h1 (by omega)), scan_part hg (h _ (by omega) (by omega) _ hg), ← Nat.add_assoc, cut_succ (i := i) (k := i + d) (by omega) hg]
/-- A word, from place i up to place k. -/
theorem scan_whole {bs : List UInt8} {i k : Nat} {out : List (List Wd)} {line : List Wd} (hik : i < k) (hk : k ≤ bs.length) (h : ∀ j, i ≤ j → j < k → ∀ c, bs[j]? = some c → partN c.toNat = true)
    (he : bs.length ≤ k ∨ ∃ c, bs[k]? = some c ∧ partN c.toNat = false) :
    scan (bs.drop i) i out line [] false = scan (bs.drop k) k out (line ++ [(i, cut bs i k)]) [] false := by
  have hl := cut_len (by omega : i ≤ k) hk
  rw [scan_run (by omega) hk h, scan_word he (by intro e; rw [e] at hl; simp at hl; omega), hl, show k - (k - i) = i by omega]
theorem flushW_none (line : List Wd) (p : Nat) : flushW line p [] = line := if_pos rfl
/-- Of bytes: what a line is, is behind it. -/
theorem flushL_some {out : List (List Wd)} {line : List Wd} (h : line ≠ []) : flushL out line = out ++ [line] := if_neg h
theorem flushL_none (out : List (List Wd)) : flushL out [] = out := if_pos rfl
theorem kind_part (n : Nat) : partN n = true ↔ 1 ≤ kindN n ∧ kindN n ≤ 4 := by
  unfold partN kindN
  by_cases h1 : lowN n = true
  · simp [h1]
  by_cases h2 : capN n = true
  · simp [h1, h2]
  by_cases h3 : digN n = true
  · simp [h1, h2, h3]
  by_cases h4 : n = 46
  · subst h4; decide
  simp only [h1, h2, h3, h4, if_false, Bool.or_false, decide_false, Bool.false_eq_true, false_iff]
  by_cases h5 : n = 32 ∨ n = 9
  · simp [h5]
  by_cases h6 : n = 10
  · simp [h6]
  by_cases h7 : n = 35
  · simp [h7]
  simp [h5, h6, h7]
theorem kind_le (n : Nat) : kindN n ≤ 7 := by
  unfold kindN
  repeat' split
  all_goals omega
theorem kind_five {n : Nat} (h : kindN n = 5) : (n = 32 ∨ n = 9) ∧ partN n = false := by
  have hp : partN n = false := by
    cases e : partN n
    · rfl
    · have := (kind_part n).1 e; omega
  refine ⟨?_, hp⟩
  unfold kindN at h
  split at h; · omega
  split at h; · omega
  split at h; · omega
  split at h; · omega
  split at h
  · assumption
  split at h; · omega
  split at h <;> omega
theorem kind_six {n : Nat} (h : kindN n = 6) : n = 10 := by
  unfold kindN at h
  split at h; · omega
  split at h; · omega
  split at h; · omega
  split at h; · omega
  split at h; · omega
  split at h
  · assumption
  split at h <;> omega
theorem kind_seven {n : Nat} (h : kindN n = 7) : n = 35 := by
  unfold kindN at h
  split at h; · omega
  split at h; · omega
  split at h; · omega
  split at h; · omega
  split at h; · omega
  split at h; · omega
  split at h
  · assumption
  · omega
theorem kind_zero {n : Nat} (h : kindN n = 0) : n ≠ 10 ∧ partN n = false ∧ n ≠ 35 ∧ ¬ (n = 32 ∨ n = 9) := by
  have hp : partN n = false := by
    cases e : partN n
    · rfl
    · have := (kind_part n).1 e; omega
  refine ⟨?_, hp, ?_, ?_⟩
  · rintro rfl; exact absurd h (by decide)
  · rintro rfl; exact absurd h (by decide)
  · rintro (rfl | rfl) <;> exact absurd h (by decide)
end Go.Proofs.YtflklpflpjdbmaaGreatDoor
