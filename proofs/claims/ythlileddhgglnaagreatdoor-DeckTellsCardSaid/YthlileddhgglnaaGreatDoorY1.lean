/-
 Contracts and what they rest on.
-/
import Derived.Lib.BitFns
import Derived.WalkKit
import Derived.RowKit3
import Derived.Deep.Draws
import Derived.Lib.Hide
import Derived.Deep.AppendLies
import Derived.Laws.Bits64b
namespace Go.Proofs.YthlileddhgglnaaGreatDoor
theorem sZ {α : Type _} {a b : α} {l : List α} : (a :: l).set 0 b = b :: l := rfl
theorem sS {α : Type _} {a b : α} {l : List α} {n : Nat} : (a :: l).set (n + 1) b = a :: l.set n b := rfl
open Go.RowKit
def Dr (w w' : World) : Prop := ∃ n, w' = w.drewN n
theorem Dr.refl (w : World) : Dr w w := ⟨0, rfl⟩
theorem Dr.trans {a b c : World} (h : Dr a b) (k : Dr b c) : Dr a c := by
 obtain ⟨n, rfl⟩ := h
 obtain ⟨m, rfl⟩ := k
 exact ⟨n + m, World.drewN_drewN _ _ _⟩
structure Q (w w' : World) : Prop where
 below : Below w.heap.size w w'
 marks : ∀ a, w'.frozen? a = w.frozen? a
theorem Q.refl (w : World) : Q w w := ⟨Below.refl _ _, fun _ => rfl⟩
theorem Q.trans {a b c : World} (h : Q a b) (k : Q b c) : Q a c :=
 ⟨h.below.trans (k.below.mono h.below.size), fun x => (k.marks x).trans (h.marks x)⟩
theorem Q.drew {a w : World} (h : Q a w) : Q a w.drew := ⟨h.below.drew, h.marks⟩
theorem Q.drewN {a w : World} (h : Q a w) (n : Nat) : Q a (w.drewN n) := ⟨⟨h.below.os, h.below.tape, h.below.output, h.below.size, h.below.block⟩, h.marks⟩
theorem Q.dr {a b c : World} (h : Q a b) (k : Dr b c) : Q a c := by obtain ⟨n, rfl⟩ := k; exact h.drewN n
theorem Dr.q {a b : World} (k : Dr a b) : Q a b := (Q.refl a).dr k
theorem Q.grown {a w : World} (h : Q a w) : Grown a w := ⟨h.below.frame _, h.marks, h.below.size⟩
theorem Q.alloc {a w : World} (h : Q a w) (c : Array Value) (t : TypeId) : Q a (w.alloc (.cells c t)) :=
 ⟨h.below.alloc h.below.size _, fun x => ((Grown.refl w).alloc c t).2.1 x |>.trans (h.marks x)⟩
theorem Q.setCell {a w : World} (h : Q a w) {p : Addr} (hp : a.heap.size ≤ p.block) (v : Value) : Q a (w.setCell p v) :=
 ⟨h.below.setCell hp v, fun x => (World.frozen?_setCell _ _ _ _).trans (h.marks x)⟩
theorem Q.keep {w w' : World} (h : Q w w') {p : Addr} {v : Value} (hc : w.cell? p = some v) : w'.cell? p = some v := by
 rw [h.below.cell (World.block_lt_of_cell? w p hc)]; exact hc
structure B (w w' : World) : Prop where
 below : Below w.heap.size w w'
theorem Q.b {w w' : World} (h : Q w w') : B w w' := ⟨h.below⟩
theorem B.refl (w : World) : B w w := ⟨Below.refl _ _⟩
theorem B.trans {a b c : World} (h : B a b) (k : B b c) : B a c := ⟨h.below.trans (k.below.mono h.below.size)⟩
theorem B.drew {a w : World} (h : B a w) : B a w.drew := ⟨h.below.drew⟩
theorem B.drewN {a w : World} (h : B a w) (n : Nat) : B a (w.drewN n) := ⟨⟨h.below.os, h.below.tape, h.below.output, h.below.size, h.below.block⟩⟩
theorem B.alloc {a w : World} (h : B a w) (c : Array Value) (t : TypeId) : B a (w.alloc (.cells c t)) := ⟨h.below.alloc h.below.size _⟩
theorem B.setCell {a w : World} (h : B a w) {p : Addr} (hp : a.heap.size ≤ p.block) (v : Value) : B a (w.setCell p v) := ⟨h.below.setCell hp v⟩
theorem B.keep {w w' : World} (h : B w w') {p : Addr} {v : Value} (hc : w.cell? p = some v) : w'.cell? p = some v := by
 rw [h.below.cell (World.block_lt_of_cell? w p hc)]; exact hc
theorem B.unfrozen {w w' : World} (h : B w w') {p : Addr} {v : Value} (hc : w.cell? p = some v) (hf : w.frozen? p = false) : w'.frozen? p = false := by
 rw [h.below.frozen (World.block_lt_of_cell? w p hc)]; exact hf
theorem B.grownBy {a w w' : World} {row : Option Nat} (h : B a w) (g : w.grownBy w' row) (hr : ∀ k, row = some k → a.heap.size ≤ k) : B a w' :=
 ⟨⟨g.os.trans h.below.os, g.tape.trans h.below.tape, g.output.trans h.below.output, Nat.le_trans h.below.size g.size, fun k hk => by
  rw [g.block k (Nat.lt_of_lt_of_le hk h.below.size) (fun e => by have := hr k e.symm; omega)]
  exact h.below.block k hk⟩⟩
end Go.Proofs.YthlileddhgglnaaGreatDoor
namespace Go.Proofs.YthlileddhgglnaaGreatDoor
open Go.RowKit
structure Held (T : World → Prop) (lo hi : Nat) (w : World) : Prop where
 now : T w
 le : hi ≤ w.heap.size
 any : ∀ w', (∀ i, lo ≤ i → i < hi → w'.heap[i]? = w.heap[i]?) → T w'
theorem Held.on {T : World → Prop} {lo hi : Nat} {w w' : World} (h : Held T lo hi w) (hs : w.heap.size ≤ w'.heap.size) (hb : ∀ i, lo ≤ i → i < hi → w'.heap[i]? = w.heap[i]?) : Held T lo hi w' :=
 ⟨h.any w' hb, Nat.le_trans h.le hs, fun w2 h2 => h.any w2 fun i h3 h4 => (h2 i h3 h4).trans (hb i h3 h4)⟩
theorem Held.keepB {T : World → Prop} {lo hi : Nat} {w w' : World} (h : Held T lo hi w) (q : B w w') : Held T lo hi w' :=
 h.on q.below.size fun i _ h2 => q.below.block i (Nat.lt_of_lt_of_le h2 h.le)
theorem Held.wide {T : World → Prop} {lo hi lo' hi' : Nat} {w : World} (h : Held T lo hi w) (h1 : lo' ≤ lo) (h2 : hi ≤ hi') (h3 : hi' ≤ w.heap.size) : Held T lo' hi' w :=
 ⟨h.now, h3, fun w' hb => h.any w' fun i h4 h5 => hb i (by omega) (by omega)⟩
end Go.Proofs.YthlileddhgglnaaGreatDoor
namespace Go.Proofs.YthlileddhgglnaaGreatDoor
open Go.RowKit
def I64 (v : Int) : Prop := -9223372036854775808 ≤ v ∧ v ≤ 9223372036854775807
instance (v : Int) : Decidable (I64 v) := inferInstanceAs (Decidable (_ ∧ _))
def qv (v : Int) : Int := if I64 v then v else 0
def qe (v : Int) : Int := if I64 v then 0 else 21
theorem qv_yes {v : Int} (h : I64 v) : qv v = v := if_pos h
theorem qe_yes {v : Int} (h : I64 v) : qe v = 0 := if_pos h
theorem qv_no {v : Int} (h : ¬ I64 v) : qv v = 0 := if_neg h
theorem qe_no {v : Int} (h : ¬ I64 v) : qe v = 21 := if_neg h
theorem i64_wf {n : Int} (w : (Lit.int .i64 n).wf = true) : I64 n := by
 simp [Lit.wf, IntKind.min, IntKind.max, IntKind.signed, IntKind.bits] at w
 unfold I64; omega
end Go.Proofs.YthlileddhgglnaaGreatDoor
namespace Go.Proofs.YthlileddhgglnaaGreatDoor
open Go.RowKit
structure Sec where
 r : Bool
 h : Int
 a0 : Int
 b0 : Int
 a1 : Int
 b1 : Int
 deriving DecidableEq, Inhabited
def Sec.I (s : Sec) : Prop := I64 s.h ∧ I64 s.a0 ∧ I64 s.b0 ∧ I64 s.a1 ∧ I64 s.b1
def Sec.cells (s : Sec) : List Value := [.bool s.r, .int .i64 s.h, .int .i64 s.a0, .int .i64 s.b0, .int .i64 s.a1, .int .i64 s.b1]
structure SecAt (w : World) (p : Addr) (s : Sec) : Prop where
 r : w.cell? p = some (.bool s.r)
 h : w.cell? ⟨p.block, p.off + 1, none⟩ = some (.int .i64 s.h)
 a0 : w.cell? ⟨p.block, p.off + 2, none⟩ = some (.int .i64 s.a0)
 b0 : w.cell? ⟨p.block, p.off + 3, none⟩ = some (.int .i64 s.b0)
 a1 : w.cell? ⟨p.block, p.off + 4, none⟩ = some (.int .i64 s.a1)
 b1 : w.cell? ⟨p.block, p.off + 5, none⟩ = some (.int .i64 s.b1)
theorem SecAt.keep {w w' : World} {p : Addr} {s : Sec} (h : SecAt w p s) (q : Q w w') : SecAt w' p s :=
 ⟨q.keep h.r, q.keep h.h, q.keep h.a0, q.keep h.b0, q.keep h.a1, q.keep h.b1⟩
def IsSecs (w : World) (v : Value) (l : List Sec) : Prop :=
 (v = .slice none 0 0 ∧ l = []) ∨
 ∃ (a : Addr) (cap : Nat), v = .slice (some a) l.length cap ∧ l.length ≤ cap ∧ cap ≤ maxLen ∧ ∀ i s, l[i]? = some s → s.I ∧ SecAt w (a.add (i * 6)) s
theorem SecAt.keepB {w w' : World} {p : Addr} {s : Sec} (h : SecAt w p s) (q : B w w') : SecAt w' p s :=
 ⟨q.keep h.r, q.keep h.h, q.keep h.a0, q.keep h.b0, q.keep h.a1, q.keep h.b1⟩
theorem IsSecs.keepB {w w' : World} {v : Value} {l : List Sec} (h : IsSecs w v l) (q : B w w') : IsSecs w' v l := by
 rcases h with h | ⟨a, cap, h1, h2, h3, h4⟩
 ·exact .inl h
 ·exact .inr ⟨a, cap, h1, h2, h3, fun i s hs => ⟨(h4 i s hs).1, (h4 i s hs).2.keepB q⟩⟩
theorem IsSecs.keep {w w' : World} {v : Value} {l : List Sec} (h : IsSecs w v l) (q : Q w w') : IsSecs w' v l := by
 rcases h with h | ⟨a, cap, h1, h2, h3, h4⟩
 ·exact .inl h
 ·exact .inr ⟨a, cap, h1, h2, h3, fun i s hs => ⟨(h4 i s hs).1, (h4 i s hs).2.keep q⟩⟩
def flat (l : List Sec) : List Value := l.flatMap Sec.cells
theorem flat_get : ∀ (l : List Sec) (i j : Nat) (s : Sec), l[i]? = some s → j < 6 → (flat l)[i * 6 + j]? = s.cells[j]?
 | [], _, _, _, h, _ => by simp at h
 | x :: l, 0, j, s, h, hj => by
  simp at h
  subst h
  show (x.cells ++ flat l)[0 * 6 + j]? = x.cells[j]?
  rw [Nat.zero_mul, Nat.zero_add, List.getElem?_append_left (by simpa [Sec.cells] using hj)]
 | x :: l, i + 1, j, s, h, hj => by
  show (x.cells ++ flat l)[(i + 1) * 6 + j]? = s.cells[j]?
  rw [List.getElem?_append_right (by simp [Sec.cells]; omega)]
  have e : (i + 1) * 6 + j - x.cells.length = i * 6 + j := by simp [Sec.cells]; omega
  rw [e]
  exact flat_get l i j s (by simpa using h) hj
theorem isSecs_cells {w : World} {l : List Sec} {b cap : Nat} (hI : ∀ s ∈ l, s.I) (h1 : l.length ≤ cap) (h2 : cap ≤ maxLen)
  (hc : ∀ k v, (flat l)[k]? = some v → w.cell? ⟨b, k, none⟩ = some v) : IsSecs w (.slice (some ⟨b, 0, none⟩) l.length cap) l := by
 refine .inr ⟨⟨b, 0, none⟩, cap, rfl, h1, h2, fun i s hs => ⟨hI s (List.mem_of_getElem? hs), ?_⟩⟩
 have e : (⟨b, 0, none⟩ : Addr).add (i * 6) = ⟨b, i * 6, none⟩ := by
  unfold Addr.add
  split
  ·rename_i h; rw [h]
  ·simp
 have g : ∀ j v, j < 6 → s.cells[j]? = some v → w.cell? ⟨b, i * 6 + j, none⟩ = some v := fun j v hj hv => hc _ _ ((flat_get l i j s hs hj).trans hv)
 rw [e]
 exact ⟨g 0 _ (by omega) rfl, g 1 _ (by omega) rfl, g 2 _ (by omega) rfl, g 3 _ (by omega) rfl, g 4 _ (by omega) rfl, g 5 _ (by omega) rfl⟩
theorem isSecs_new {w : World} {t : TypeId} {l : List Sec} {cs : Array Value} {cap H : Nat} (hc : cs = (flat l).toArray) (hH : w.heap.size = H) (hI : ∀ s ∈ l, s.I) (h1 : l.length ≤ cap) (h2 : cap ≤ maxLen) :
  IsSecs (w.alloc (.cells cs t)) (.slice (some ⟨H, 0, none⟩) l.length cap) l := by
 refine isSecs_cells hI h1 h2 fun k v hv => ?_
 subst hH hc
 rw [World.cell?_alloc_new]
 simpa using hv
def IsU16 (w : World) (v : Value) (n : Nat) : Prop :=
 (v = .slice none 0 0 ∧ n = 0) ∨
 ∃ (a : Addr) (cap : Nat), v = .slice (some a) n cap ∧ n ≤ cap ∧ cap ≤ maxLen ∧ ∀ i, i < n → ∃ x : Int, 0 ≤ x ∧ x ≤ 65535 ∧ w.cell? (a.add i) = some (.int .u16 x)
theorem add0 (b k : Nat) : (⟨b, 0, none⟩ : Addr).add k = ⟨b, k, none⟩ := by
 unfold Addr.add
 split
 ·rename_i h; rw [h]
 ·simp
def hsumI (l : List Sec) (k : Nat) : Int := (l.take k).foldl (fun t s => t + s.h) 0
theorem hsumI_succ (l : List Sec) (k : Nat) (s : Sec) (h : l[k]? = some s) : hsumI l (k + 1) = hsumI l k + s.h := by
 unfold hsumI
 rw [List.take_add_one, h]
 simp
def inB (v a b : Int) : Bool := decide (a ≤ v) && decide (v ≤ b)
def secOk (s : Sec) : Bool := decide (1 ≤ s.h) && decide (s.h ≤ 60000) && decide (s.h.tmod 100 = 0) && inB s.a0 0 20000 && inB s.a1 1 20000 &&
 (if s.r then decide (s.b0 = 0) && decide (s.b1 = 0) else inB s.b0 0 20000 && inB s.b1 1 20000)
def okTo (l : List Sec) (k : Nat) : Bool := (l.take k).all secOk
def rightS (l : List Sec) : Bool := decide (1 ≤ l.length) && decide (l.length ≤ 4) && l.all secOk && decide (hsumI l l.length ≤ 60000)
theorem okTo_succ (l : List Sec) (k : Nat) (s : Sec) (h : l[k]? = some s) (hk : okTo l k = true) (hs : secOk s = true) : okTo l (k + 1) = true := by
 unfold okTo at *
 rw [List.take_add_one, h]
 simp at hk ⊢
 exact ⟨hk, hs⟩
theorem secOk_h (s : Sec) (h : secOk s = true) : 1 ≤ s.h ∧ s.h ≤ 60000 := by
 unfold secOk at h
 simp only [Bool.and_eq_true, decide_eq_true_eq] at h
 exact ⟨h.1.1.1.1.1, h.1.1.1.1.2⟩
theorem hsum_small (l : List Sec) (k : Nat) (h : okTo l k = true) : 0 ≤ hsumI l k ∧ hsumI l k ≤ 60000 * (k : Int) := by
 induction k with
 | zero => simp [hsumI]
 | succ k ih =>
  cases hg : l[k]? with
  | none =>
   have e1 : l.take (k + 1) = l.take k := by rw [List.take_add_one, hg]; simp
   unfold okTo hsumI at *
   rw [e1] at h ⊢
   have := ih h
   omega
  | some s =>
   have h' : okTo l k = true ∧ secOk s = true := by
    unfold okTo at *
    rw [List.take_add_one, hg] at h
    simpa using h
   have := ih h'.1
   have hs := secOk_h s h'.2
   rw [hsumI_succ l k s hg]
   omega
theorem rightS_short (l : List Sec) (h : l.length < 1) : rightS l = false := by
 unfold rightS
 rw [decide_eq_false (show ¬ 1 ≤ l.length by omega)]
 simp
theorem rightS_long (l : List Sec) (h : 4 < l.length) : rightS l = false := by
 unfold rightS
 rw [decide_eq_false (show ¬ l.length ≤ 4 by omega)]
 simp
theorem rightS_bad (l : List Sec) (k : Nat) (s : Sec) (h : l[k]? = some s) (hs : secOk s = false) : rightS l = false := by
 have : l.all secOk = false := by
  rw [List.all_eq_false]
  exact ⟨s, List.mem_of_getElem? h, by simp [hs]⟩
 unfold rightS
 rw [this]
 simp
theorem rightS_end (l : List Sec) (h1 : 1 ≤ l.length) (h2 : l.length ≤ 4) (h : okTo l l.length = true) : rightS l = decide (hsumI l l.length ≤ 60000) := by
 unfold rightS
 unfold okTo at h
 rw [List.take_length] at h
 rw [decide_eq_true h1, decide_eq_true h2, h]
 simp
theorem secOk_eq (s : Sec) (m : Int) (hm : s.h.tmod 100 = m) : secOk s = (!(decide (s.h < 1)) && !(decide (60000 < s.h)) && !(m != 0) && inB s.a0 0 20000 && inB s.a1 1 20000 &&
  (if s.r then !(s.b0 != 0) && !(s.b1 != 0) else inB s.b0 0 20000 && inB s.b1 1 20000)) := by
 unfold secOk
 rw [hm]
 have e1 : decide (1 ≤ s.h) = !(decide (s.h < 1)) := by
  by_cases h : 1 ≤ s.h
  ·rw [decide_eq_true h, decide_eq_false (by omega)]; rfl
  ·rw [decide_eq_false h, decide_eq_true (by omega)]; rfl
 have e2 : decide (s.h ≤ 60000) = !(decide (60000 < s.h)) := by
  by_cases h : s.h ≤ 60000
  ·rw [decide_eq_true h, decide_eq_false (by omega)]; rfl
  ·rw [decide_eq_false h, decide_eq_true (by omega)]; rfl
 have e3 : ∀ x : Int, decide (x = 0) = !(x != 0) := by
  intro x
  by_cases h : x = 0
  ·subst h; rfl
  ·rw [decide_eq_false h]; simp [h]
 rw [e1, e2, e3, e3, e3]
end Go.Proofs.YthlileddhgglnaaGreatDoor
namespace Go.Proofs.YthlileddhgglnaaGreatDoor
open Go.RowKit
theorem wrapI {z : Int} (h1 : -9223372036854775808 ≤ z) (h2 : z ≤ 9223372036854775807) : IntKind.i64.wrap z = z := by
 rw [IntKind.wrap_i64]; omega
theorem inB_iff {v a b : Int} : inB v a b = true ↔ a ≤ v ∧ v ≤ b := by unfold inB; simp
theorem secOk_all {s : Sec} (h : secOk s = true) : 1 ≤ s.h ∧ s.h ≤ 60000 ∧ 0 ≤ s.a0 ∧ s.a0 ≤ 20000 ∧ 1 ≤ s.a1 ∧ s.a1 ≤ 20000 ∧ 0 ≤ s.b0 ∧ s.b0 ≤ 20000 ∧ 0 ≤ s.b1 ∧ s.b1 ≤ 20000 ∧ (s.r = true → s.b0 = 0 ∧ s.b1 = 0) := by
 unfold secOk at h
 simp only [Bool.and_eq_true, decide_eq_true_eq, inB_iff] at h
 obtain ⟨⟨⟨⟨⟨h1, h2⟩, _⟩, h4, h5⟩, h6, h7⟩, h8⟩ := h
 cases hr : s.r
 ·rw [hr, if_neg (by decide)] at h8
  simp only [Bool.and_eq_true, inB_iff] at h8
  refine ⟨h1, h2, h4, h5, h6, h7, by omega, by omega, by omega, by omega, by simp⟩
 ·rw [hr, if_pos rfl] at h8
  simp only [Bool.and_eq_true, decide_eq_true_eq] at h8
  refine ⟨h1, h2, h4, h5, h6, h7, by omega, by omega, by omega, by omega, fun _ => h8⟩
theorem right_all {l : List Sec} (h : rightS l = true) : 1 ≤ l.length ∧ l.length ≤ 4 ∧ ∀ s ∈ l, secOk s = true := by
 unfold rightS at h
 simp only [Bool.and_eq_true, decide_eq_true_eq] at h
 exact ⟨h.1.1.1, h.1.1.2, List.all_eq_true.1 h.1.2⟩
theorem IsU16.form {w : World} {v : Value} {n : Nat} (h : IsU16 w v n) : ∃ ao cap, v = .slice ao n cap ∧ n ≤ 9223372036854775807 := by
 rcases h with ⟨rfl, rfl⟩ | ⟨a, cap, rfl, h1, h2, _⟩
 ·exact ⟨_, _, rfl, by omega⟩
 ·exact ⟨_, _, rfl, by unfold maxLen at h2; omega⟩
theorem IsU16.keepB {w w' : World} {v : Value} {n : Nat} (h : IsU16 w v n) (q : B w w') : IsU16 w' v n := by
 rcases h with h | ⟨a, cap, h1, h2, h3, h4⟩
 ·exact .inl h
 ·exact .inr ⟨a, cap, h1, h2, h3, fun i hi => by obtain ⟨x, a1, a2, a3⟩ := h4 i hi; exact ⟨x, a1, a2, q.keep a3⟩⟩
end Go.Proofs.YthlileddhgglnaaGreatDoor
namespace Go.Proofs.YthlileddhgglnaaGreatDoor
structure Dig (u a b c q r : Nat) : Prop where
 rest : u = q * a + r
 up : (u * 4294967296 + c) / (a * 4294967296 + b) ≤ q
 few : q ≤ 4294967297
theorem dig_first (u a b c : Nat) (ha : 2147483648 ≤ a) (hb : b < 4294967296) (hc : c < 4294967296) (hu : u < a * 4294967296 + b) :
  Dig u a b c (u / a) (u - u / a * a) := by
 have hle := Nat.div_mul_le_self u a
 refine ⟨by omega, ?_, ?_⟩
 ·rw [Nat.le_div_iff_mul_le (by omega)]
  -- q * a ≤ u, for q * (a * B + b) ≤ u * B + c
  have h := Nat.div_mul_le_self (u * 4294967296 + c) (a * 4294967296 + b)
  generalize (u * 4294967296 + c) / (a * 4294967296 + b) = q at *
  rw [Nat.mul_add, ← Nat.mul_assoc] at h
  generalize q * a = x at *
  generalize q * b = z at *
  omega
 ·rw [← Nat.lt_succ_iff, Nat.div_lt_iff_lt_mul (by omega)]
  omega
theorem dig_small (u a b c : Nat) (hc : c < 4294967296) (hu : u < a * 4294967296 + b) : (u * 4294967296 + c) / (a * 4294967296 + b) < 4294967296 := by
 rw [Nat.div_lt_iff_lt_mul (by omega)]; omega
theorem Dig.next {u a b c q r : Nat} (hc : c < 4294967296) (hu : u < a * 4294967296 + b) (d : Dig u a b c q r) (h : 4294967296 ≤ q ∨ 4294967296 * r + c < q * b) :
  1 ≤ q ∧ Dig u a b c (q - 1) (r + a) := by
 have hs := dig_small u a b c hc hu
 have hq : (u * 4294967296 + c) / (a * 4294967296 + b) < q := by
  rcases h with h | h
  ·omega
  ·rw [Nat.div_lt_iff_lt_mul (show 0 < a * 4294967296 + b by omega), Nat.mul_add, ← Nat.mul_assoc]
   have := d.rest
   generalize q * a = x at *
   generalize q * b = z at *
   omega
 have hq1 : 0 < q := Nat.lt_of_le_of_lt (Nat.zero_le _) hq
 have hup : (u * 4294967296 + c) / (a * 4294967296 + b) ≤ q - 1 := Nat.le_sub_one_of_lt hq
 obtain ⟨p, rfl⟩ : ∃ p, q = p + 1 := ⟨q - 1, by omega⟩
 refine ⟨by omega, ⟨?_, hup, by have := d.few; omega⟩⟩
 have := d.rest
 rw [Nat.add_mul] at this
 simp only [Nat.add_sub_cancel]
 omega
theorem Dig.done {u a b c q r : Nat} (hb : b < 4294967296) (hu : u < a * 4294967296 + b) (d : Dig u a b c q r) (h : (q < 4294967296 ∧ q * b ≤ 4294967296 * r + c) ∨ (4294967296 ≤ r ∧ q ≤ 4294967296)) :
  q = (u * 4294967296 + c) / (a * 4294967296 + b) := by
 refine Nat.le_antisymm ?_ d.up
 rw [Nat.le_div_iff_mul_le (by omega), Nat.mul_add, ← Nat.mul_assoc]
 have hr := d.rest
 have hz : q * b ≤ 4294967296 * r + c := by
  rcases h with h | h
  ·exact h.2
  ·have : q * b ≤ 4294967296 * 4294967295 := Nat.mul_le_mul h.2 (by omega)
   omega
 generalize q * a = x at *
 generalize q * b = z at *
 omega
theorem two_digits (x c y B : Nat) (hy : 0 < y) : (x * B + c) / y = x / y * B + (x % y * B + c) / y ∧ (x * B + c) % y = (x % y * B + c) % y := by
 have e : x * B + c = (x % y * B + c) + y * (x / y * B) := by
  conv => lhs; rw [← Nat.div_add_mod x y]
  rw [Nat.add_mul, Nat.mul_assoc]; omega
 constructor
 ·conv => lhs; rw [e]
  rw [Nat.add_mul_div_left _ _ hy]; omega
 ·conv => lhs; rw [e]
  rw [Nat.add_mul_mod_self_left]
theorem div_whole (hi lo y s : Nat) (hs : s ≤ 63) (hlo : lo < 18446744073709551616) (hhy : hi < y) :
  let Y := y * 2 ^ s
  let U := hi * 2 ^ s + lo / 2 ^ (64 - s)
  let L := lo * 2 ^ s % 18446744073709551616
  let q1 := (U * 4294967296 + L / 4294967296) / Y
  let R := (U * 4294967296 + L / 4294967296) % Y
  let q0 := (R * 4294967296 + L % 4294967296) / Y
  let E := (R * 4294967296 + L % 4294967296) % Y
  U < Y ∧ q1 * 4294967296 + q0 = (hi * 18446744073709551616 + lo) / y ∧ E / 2 ^ s = (hi * 18446744073709551616 + lo) % y := by
 have hp : 0 < 2 ^ s := Nat.two_pow_pos s
 have hY : 0 < y * 2 ^ s := Nat.mul_pos (by omega) hp
 have h64 : (18446744073709551616 : Nat) = 2 ^ (64 - s) * 2 ^ s := by rw [← Nat.pow_add, show 64 - s + s = 64 from by omega]
 have hN : (hi * 18446744073709551616 + lo) * 2 ^ s = (hi * 2 ^ s + lo / 2 ^ (64 - s)) * 18446744073709551616 + lo * 2 ^ s % 18446744073709551616 := by
  have hm : lo * 2 ^ s / 18446744073709551616 = lo / 2 ^ (64 - s) := by rw [h64, Nat.mul_div_mul_right _ _ hp]
  have := Nat.div_add_mod (lo * 2 ^ s) 18446744073709551616
  rw [hm] at this
  rw [Nat.add_mul, Nat.add_mul, ← this, Nat.mul_right_comm]; omega
 have hd := two_digits ((hi * 2 ^ s + lo / 2 ^ (64 - s)) * 4294967296 + lo * 2 ^ s % 18446744073709551616 / 4294967296) (lo * 2 ^ s % 18446744073709551616 % 4294967296) (y * 2 ^ s) 4294967296 hY
 have hX : ((hi * 2 ^ s + lo / 2 ^ (64 - s)) * 4294967296 + lo * 2 ^ s % 18446744073709551616 / 4294967296) * 4294967296 + lo * 2 ^ s % 18446744073709551616 % 4294967296 = (hi * 18446744073709551616 + lo) * 2 ^ s := by
  rw [hN]; omega
 rw [hX, Nat.mul_div_mul_right _ _ hp, Nat.mul_mod_mul_right] at hd
 refine ⟨?_, hd.1.symm, ?_⟩
 ·have h1 : lo / 2 ^ (64 - s) < 2 ^ s := by rw [Nat.div_lt_iff_lt_mul (Nat.two_pow_pos _), Nat.mul_comm, ← h64]; exact hlo
  have h2 : (hi + 1) * 2 ^ s ≤ y * 2 ^ s := Nat.mul_le_mul_right _ hhy
  rw [Nat.add_mul] at h2
  omega
 ·show _ % (y * 2 ^ s) / 2 ^ s = _
  rw [← hd.2, Nat.mul_div_cancel _ hp]
theorem pow_parts (s : Nat) (hs : s ≤ 63) : 2 ^ (63 - s) * 2 ^ s = 9223372036854775808 ∧ 2 ^ (63 - s) * 2 * 2 ^ s = 18446744073709551616 := by
 have h : 2 ^ (63 - s) * 2 ^ s = 9223372036854775808 := by rw [← Nat.pow_add, show 63 - s + s = 63 from by omega]
 exact ⟨h, by rw [Nat.mul_right_comm, h]⟩
theorem bitLen_of (y s : Nat) (h1 : 9223372036854775808 ≤ y * 2 ^ s) (h2 : y * 2 ^ s < 18446744073709551616) (hs : s ≤ 63) : (64 : Int) - (Lib.bitLen y : Int) = (s : Int) := by
 obtain ⟨e1, e2⟩ := pow_parts s hs
 have hp := Nat.two_pow_pos s
 rw [← e1] at h1
 rw [← e2] at h2
 have l1 := Nat.le_of_mul_le_mul_right h1 hp
 have l2 := Nat.lt_of_mul_lt_mul_right h2
 have l3 : 2 ^ (63 - s) * 2 ≤ 2 ^ 64 := by
  have : 2 ^ (63 - s) ≤ 2 ^ 63 := Nat.pow_le_pow_right (by omega) (by omega)
  omega
 have h := Lib.bitLen_shift (63 - s) y l1 (by omega)
 have q : y / 2 ^ (63 - s) = 1 := Nat.div_eq_of_lt_le (by omega) (by omega)
 rw [q, show Lib.bitLen 1 = 1 from by decide +kernel] at h
 omega
theorem exists_s (y : Nat) (h0 : 0 < y) (h1 : y < 18446744073709551616) : ∃ s, s ≤ 63 ∧ 9223372036854775808 ≤ y * 2 ^ s ∧ y * 2 ^ s < 18446744073709551616 := by
 have a := Nat.log2_self_le (n := y) (by omega)
 have b := Nat.lt_log2_self (n := y)
 have c : y.log2 < 64 := (Nat.log2_lt (by omega)).2 h1
 obtain ⟨e1, e2⟩ := pow_parts (63 - y.log2) (by omega)
 rw [show 63 - (63 - y.log2) = y.log2 from by omega] at e1 e2
 have hp := Nat.two_pow_pos (63 - y.log2)
 refine ⟨63 - y.log2, by omega, ?_, ?_⟩
 ·rw [← e1]; exact Nat.mul_le_mul_right _ a
 ·rw [← e2]; rw [Nat.pow_succ] at b; exact Nat.mul_lt_mul_of_pos_right b hp
theorem wrapU (n : Int) : IntKind.u64.wrap n = n % 18446744073709551616 := IntKind.wrap_u64 n
theorem wrapN (a : Nat) (ha : a < 18446744073709551616) : IntKind.u64.wrap (a : Int) = (a : Int) := by rw [IntKind.wrap_u64]; omega
theorem wrapM (a : Nat) : IntKind.u64.wrap (a : Int) = ((a % 18446744073709551616 : Nat) : Int) := by rw [IntKind.wrap_u64]; omega
theorem maskN (a : Nat) (ha : a < 18446744073709551616) : bits .and .u64 (a : Int) 4294967295 = ((a % 4294967296 : Nat) : Int) := by
 have h := bits_and_u64_nat a 4294967295 ha (by omega)
 have e : a &&& 4294967295 = a % 4294967296 := Nat.and_two_pow_sub_one_eq_mod a 32
 rw [e] at h
 exact h
theorem or_join (s x y : Nat) (hx : 2 ^ s ∣ x) (hy : y < 2 ^ s) : x ||| y = x + y := by
 obtain ⟨k, rfl⟩ := hx
 rw [Nat.mul_comm, ← Nat.shiftLeft_eq, Nat.shiftLeft_add_eq_or_of_lt hy]
theorem div_ahead (hi lo y s : Nat) (hs : s ≤ 63) (h0 : hi < y) (hlo : lo < 18446744073709551616) (h5 : y * 2 ^ s < 18446744073709551616) :
  ∃ Y a b H K U L c d : Nat,
   IntKind.u64.wrap ((y : Int) * 2 ^ s) = (Y : Int) ∧ (Y : Int) / 4294967296 = (a : Int) ∧ bits .and .u64 (Y : Int) 4294967295 = (b : Int) ∧
   IntKind.u64.wrap ((hi : Int) * 2 ^ s) = (H : Int) ∧ (lo : Int) / 2 ^ (64 - s) = (K : Int) ∧ bits .or .u64 (H : Int) (K : Int) = (U : Int) ∧
   IntKind.u64.wrap ((lo : Int) * 2 ^ s) = (L : Int) ∧ (L : Int) / 4294967296 = (c : Int) ∧ bits .and .u64 (L : Int) 4294967295 = (d : Int) ∧
   Y = y * 2 ^ s ∧ Y = a * 4294967296 + b ∧ U = hi * 2 ^ s + lo / 2 ^ (64 - s) ∧ L = lo * 2 ^ s % 18446744073709551616 ∧ c = L / 4294967296 ∧ d = L % 4294967296 ∧ U < Y := by
 have hp := Nat.two_pow_pos s
 have hp' := Nat.two_pow_pos (64 - s)
 have h64 : (18446744073709551616 : Nat) = 2 ^ (64 - s) * 2 ^ s := by rw [← Nat.pow_add, show 64 - s + s = 64 from by omega]
 have hU := (div_whole hi lo y s hs hlo h0).1
 have hH : hi * 2 ^ s < 18446744073709551616 := Nat.lt_of_le_of_lt (Nat.mul_le_mul_right _ (Nat.le_of_lt h0)) h5
 have hK : lo / 2 ^ (64 - s) < 2 ^ s := by rw [Nat.div_lt_iff_lt_mul hp', Nat.mul_comm, ← h64]; exact hlo
 have hK2 : lo / 2 ^ (64 - s) < 18446744073709551616 := Nat.lt_of_le_of_lt (Nat.div_le_self _ _) hlo
 refine ⟨y * 2 ^ s, y * 2 ^ s / 4294967296, y * 2 ^ s % 4294967296, hi * 2 ^ s, lo / 2 ^ (64 - s), hi * 2 ^ s + lo / 2 ^ (64 - s), lo * 2 ^ s % 18446744073709551616, lo * 2 ^ s % 18446744073709551616 / 4294967296, lo * 2 ^ s % 18446744073709551616 % 4294967296, ?_, ?_, ?_, ?_, ?_, ?_, ?_, ?_, ?_, rfl, ?_, rfl, rfl, rfl, rfl, hU⟩
 ·rw [show ((y : Int) * 2 ^ s) = ((y * 2 ^ s : Nat) : Int) by push_cast; rfl]; exact wrapN _ h5
 ·omega
 ·exact maskN _ h5
 ·rw [show ((hi : Int) * 2 ^ s) = ((hi * 2 ^ s : Nat) : Int) by push_cast; rfl]; exact wrapN _ hH
 ·push_cast; rfl
 ·rw [bits_or_u64_nat _ _ hH hK2, or_join s _ _ (Nat.dvd_mul_left _ _) hK]
 ·rw [show ((lo : Int) * 2 ^ s) = ((lo * 2 ^ s : Nat) : Int) by push_cast; rfl]; exact wrapM _
 ·omega
 ·exact maskN _ (Nat.mod_lt _ (by omega))
 ·omega
theorem left_num (U c Z R : Nat) (h : Z + R = U * 4294967296 + c) (hR : R < 18446744073709551616) :
  IntKind.u64.wrap (((U * 4294967296 % 18446744073709551616 : Nat) : Int) + (c : Int) - ((Z % 18446744073709551616 : Nat) : Int)) = (R : Int) := by
 rw [wrapU]; omega
theorem left_behind (U c Y q : Nat) (hc : c < 4294967296) (hY0 : 0 < Y) (hY : Y < 18446744073709551616) (hq : q = (U * 4294967296 + c) / Y) :
  ∃ M Z R : Nat, IntKind.u64.wrap ((U : Int) * 4294967296) = (M : Int) ∧ M + c < 18446744073709551616 ∧ IntKind.u64.wrap ((q : Int) * (Y : Int)) = (Z : Int) ∧
   IntKind.u64.wrap ((M : Int) + (c : Int) - (Z : Int)) = (R : Int) ∧ R < Y ∧ R = (U * 4294967296 + c) % Y := by
 refine ⟨U * 4294967296 % 18446744073709551616, q * Y % 18446744073709551616, (U * 4294967296 + c) % Y, ?_, ?_, ?_, ?_, Nat.mod_lt _ hY0, rfl⟩
 ·rw [wrapU]; omega
 ·omega
 ·rw [show ((q : Int) * (Y : Int)) = ((q * Y : Nat) : Int) by push_cast; rfl]; exact wrapM _
 ·have h := Nat.div_add_mod (U * 4294967296 + c) Y
  rw [← hq, Nat.mul_comm] at h
  exact left_num U c (q * Y) _ h (Nat.lt_trans (Nat.mod_lt _ hY0) hY)
theorem dig_ways {u a b c q r : Nat} (hb : b < 4294967296) (hc : c < 4294967296) (hu : u < a * 4294967296 + b) (d : Dig u a b c q r) :
  (decide ((4294967296 : Int) ≤ (q : Int)) = true ∧ decide ((4294967296 : Int) ≤ (r : Int) + (a : Int)) = false ∧ 1 ≤ q ∧ q ≤ 4294967297 ∧ r + a < 4294967296 ∧ Dig u a b c (q - 1) (r + a)) ∨
  (decide ((4294967296 : Int) ≤ (q : Int)) = false ∧ q * b < 18446744073709551616 ∧ decide ((4294967296 : Int) * (r : Int) + (c : Int) < (q : Int) * (b : Int)) = true ∧ decide ((4294967296 : Int) ≤ (r : Int) + (a : Int)) = false ∧ 1 ≤ q ∧ q ≤ 4294967297 ∧ r + a < 4294967296 ∧ Dig u a b c (q - 1) (r + a)) ∨
  (∃ Q : Nat, decide ((4294967296 : Int) ≤ (q : Int)) = true ∧ decide ((4294967296 : Int) ≤ (r : Int) + (a : Int)) = true ∧ 1 ≤ q ∧ q ≤ 4294967297 ∧ (q : Int) - 1 = (Q : Int) ∧ Q = (u * 4294967296 + c) / (a * 4294967296 + b)) ∨
  (∃ Q : Nat, decide ((4294967296 : Int) ≤ (q : Int)) = false ∧ q * b < 18446744073709551616 ∧ decide ((4294967296 : Int) * (r : Int) + (c : Int) < (q : Int) * (b : Int)) = true ∧ decide ((4294967296 : Int) ≤ (r : Int) + (a : Int)) = true ∧ 1 ≤ q ∧ q ≤ 4294967297 ∧ (q : Int) - 1 = (Q : Int) ∧ Q = (u * 4294967296 + c) / (a * 4294967296 + b)) ∨
  (decide ((4294967296 : Int) ≤ (q : Int)) = false ∧ q * b < 18446744073709551616 ∧ decide ((4294967296 : Int) * (r : Int) + (c : Int) < (q : Int) * (b : Int)) = false ∧ q ≤ 4294967297 ∧ q = (u * 4294967296 + c) / (a * 4294967296 + b)) := by
 have hfew := d.few
 by_cases hq : 4294967296 ≤ q
 ·obtain ⟨h1, d'⟩ := d.next hc hu (Or.inl hq)
  have hqB : decide ((4294967296 : Int) ≤ (q : Int)) = true := decide_eq_true (by omega)
  by_cases hl : 4294967296 ≤ r + a
  ·exact Or.inr (Or.inr (Or.inl ⟨q - 1, hqB, decide_eq_true (by omega), h1, hfew, by omega, d'.done hb hu (Or.inr ⟨hl, by omega⟩)⟩))
  ·exact Or.inl ⟨hqB, decide_eq_false (by omega), h1, hfew, by omega, d'⟩
 ·have hqb : q * b < 18446744073709551616 := by
   have : q * b ≤ 4294967295 * 4294967295 := Nat.mul_le_mul (by omega) (by omega)
   omega
  have hqB : decide ((4294967296 : Int) ≤ (q : Int)) = false := decide_eq_false (by omega)
  by_cases hz : 4294967296 * r + c < q * b
  ·obtain ⟨h1, d'⟩ := d.next hc hu (Or.inr hz)
   have hzB : decide ((4294967296 : Int) * (r : Int) + (c : Int) < (q : Int) * (b : Int)) = true := decide_eq_true (by rw [← Int.natCast_mul q b]; omega)
   by_cases hl : 4294967296 ≤ r + a
   ·exact Or.inr (Or.inr (Or.inr (Or.inl ⟨q - 1, hqB, hqb, hzB, decide_eq_true (by omega), h1, hfew, by omega, d'.done hb hu (Or.inr ⟨hl, by omega⟩)⟩)))
   ·exact Or.inr (Or.inl ⟨hqB, hqb, hzB, decide_eq_false (by omega), h1, hfew, by omega, d'⟩)
  ·exact Or.inr (Or.inr (Or.inr (Or.inr ⟨hqB, hqb, decide_eq_false (by rw [← Int.natCast_mul q b]; omega), hfew, d.done hb hu (Or.inl ⟨by omega, by omega⟩)⟩)))
theorem first_guess (U a b c : Nat) (ha : 2147483648 ≤ a) (ha2 : a < 4294967296) (hb : b < 4294967296) (hc : c < 4294967296) (hU : U < a * 4294967296 + b) :
  ∃ p t r : Nat, IntKind.u64.wrap ((U : Int) / (a : Int)) = (p : Int) ∧ IntKind.u64.wrap ((p : Int) * (a : Int)) = (t : Int) ∧ IntKind.u64.wrap ((U : Int) - (t : Int)) = (r : Int) ∧
   Dig U a b c p r ∧ r < 4294967296 := by
 have d := dig_first U a b c ha hb hc hU
 have h1 : U / a ≤ U := Nat.div_le_self _ _
 have h2 := Nat.div_mul_le_self U a
 have h3 := Nat.div_add_mod U a
 have h4 := Nat.mod_lt U (show 0 < a by omega)
 rw [Nat.mul_comm] at h3
 refine ⟨U / a, U / a * a, U - U / a * a, ?_, ?_, ?_, d, by omega⟩
 ·rw [← Int.natCast_ediv]; exact wrapN _ (by omega)
 ·rw [← Int.natCast_mul]; exact wrapN _ (by omega)
 ·rw [← Int.natCast_sub h2]; exact wrapN _ (by omega)
def dq (hi lo y : Nat) : Nat := (hi * 18446744073709551616 + lo) / y
def dr (hi lo y : Nat) : Nat := (hi * 18446744073709551616 + lo) % y
theorem cast_sum (a b n : Nat) (h : a * 4294967296 + b = n) : (a : Int) * 4294967296 + (b : Int) = (n : Int) := by omega
theorem cast_low (e s m : Nat) (h : e / 2 ^ s = m) : (e : Int) / 2 ^ s = (m : Int) := by subst h; push_cast; rfl
theorem div_end {hi lo y s Y U L c d Q R P E : Nat} (hs : s ≤ 63) (h0 : hi < y) (hlo : lo < 18446744073709551616)
  (e1 : Y = y * 2 ^ s) (e2 : U = hi * 2 ^ s + lo / 2 ^ (64 - s)) (e3 : L = lo * 2 ^ s % 18446744073709551616) (e4 : c = L / 4294967296) (e5 : d = L % 4294967296)
  (e6 : Q = (U * 4294967296 + c) / Y) (e7 : R = (U * 4294967296 + c) % Y) (e8 : P = (R * 4294967296 + d) / Y) (e9 : E = (R * 4294967296 + d) % Y) :
  (Q : Int) * 4294967296 + (P : Int) = (dq hi lo y : Int) ∧ (E : Int) / 2 ^ s = (dr hi lo y : Int) := by
 have h := (div_whole hi lo y s hs hlo h0).2
 subst e1 e2 e3 e4 e5 e6 e7 e8 e9
 exact ⟨cast_sum _ _ _ h.1, cast_low _ _ _ h.2⟩
end Go.Proofs.YthlileddhgglnaaGreatDoor
namespace Go.Proofs.YthlileddhgglnaaGreatDoor
open Go.RowKit
def mdQ (x d : Int) (up : Bool) : Int := if up then -((-x) / d) else x / d
def mq (a b y : Int) (up : Bool) : Int := mdQ (if y < 0 then -(a * b) else a * b) y.natAbs up
def mv (a b y : Int) (up : Bool) : Int := if y = 0 then 0 else qv (mq a b y up)
def me (a b y : Int) (up : Bool) : Int := if y = 0 then 22 else qe (mq a b y up)
def sg (neg : Bool) (q : Nat) : Int := if neg then -(q : Int) else q
def nb (a b y : Int) : Bool := (decide (a < 0) != decide (b < 0)) != decide (y < 0)
def qu (n d : Nat) (away : Bool) : Nat := n / d + (if away && decide (0 < n % d) then 1 else 0)
theorem sg_fits_pos (q : Nat) : I64 (sg false q) ↔ q ≤ 9223372036854775807 := by unfold I64 sg; simp; omega
theorem sg_fits_neg (q : Nat) : I64 (sg true q) ↔ q ≤ 9223372036854775808 := by unfold I64 sg; simp; omega
theorem neg_div (n d : Nat) (hd : 0 < d) : (-(n : Int)) / (d : Int) = -(qu n d true : Int) := by
 unfold qu
 rw [Int.neg_ediv]
 have hs : (d : Int).sign = 1 := Int.sign_eq_one_of_pos (by omega)
 by_cases hr : 0 < n % d
 ·have hnd : ¬ (d : Int) ∣ (n : Int) := by
   rw [Int.natCast_dvd_natCast, Nat.dvd_iff_mod_eq_zero]; omega
  rw [if_neg hnd, hs, if_pos (by simpa using hr)]
  push_cast; omega
 ·have hnd : (d : Int) ∣ (n : Int) := by
   rw [Int.natCast_dvd_natCast, Nat.dvd_iff_mod_eq_zero]; omega
  rw [if_pos hnd, if_neg (by simpa using hr)]
  push_cast; omega
theorem mdQ_sg (n d : Nat) (hd : 0 < d) (up neg : Bool) : mdQ (sg neg n) d up = sg neg (qu n d (up != neg)) := by
 have h := neg_div n d hd
 have h0 : (n : Int) / (d : Int) = (qu n d false : Int) := by unfold qu; simp
 cases neg <;> cases up <;> simp [mdQ, sg, h, h0]
theorem sg_mul (a b y : Int) : (if y < 0 then -(a * b) else a * b) = sg (nb a b y) (a.natAbs * b.natAbs) := by
 unfold sg nb
 rw [Int.natCast_mul]
 by_cases ha : a < 0 <;> by_cases hb : b < 0 <;> by_cases hy : y < 0
 all_goals
  first | rw [show (a.natAbs : Int) = -a by omega] | rw [show (a.natAbs : Int) = a by omega]
  first | rw [show (b.natAbs : Int) = -b by omega] | rw [show (b.natAbs : Int) = b by omega]
  simp [ha, hb, hy, Int.neg_mul, Int.mul_neg]
theorem mq_eq (a b y : Int) (up : Bool) (hy : y ≠ 0) : mq a b y up = sg (nb a b y) (qu (a.natAbs * b.natAbs) y.natAbs (up != nb a b y)) := by
 unfold mq
 rw [sg_mul, mdQ_sg _ _ (by omega)]
theorem over_early (n d : Nat) (neg away : Bool) (h : d ≤ n / 18446744073709551616) (hd : 0 < d) : ¬ I64 (sg neg (qu n d away)) := by
 have h1 : 18446744073709551616 ≤ n / d := by
  rw [Nat.le_div_iff_mul_le hd]
  have := Nat.div_mul_le_self n 18446744073709551616
  have := Nat.mul_le_mul_right 18446744073709551616 h
  omega
 have h2 : 18446744073709551616 ≤ qu n d away := by unfold qu; omega
 cases neg
 ·rw [sg_fits_pos]; omega
 ·rw [sg_fits_neg]; omega
theorem quot_small (n d : Nat) (h : n / 18446744073709551616 < d) : n / d < 18446744073709551616 := by
 rw [Nat.div_lt_iff_lt_mul (by omega)]
 rw [Nat.div_lt_iff_lt_mul (by omega)] at h
 omega
theorem abs_lt (a : Int) (h : I64 a) : a.natAbs < 18446744073709551616 ∧ a.natAbs ≤ 9223372036854775808 := by unfold I64 at h; omega
theorem dq_whole (n y : Nat) : dq (n / 18446744073709551616) (n % 18446744073709551616) y = n / y ∧ dr (n / 18446744073709551616) (n % 18446744073709551616) y = n % y := by
 unfold dq dr
 rw [Nat.div_add_mod' n 18446744073709551616]
 exact ⟨rfl, rfl⟩
end Go.Proofs.YthlileddhgglnaaGreatDoor
namespace Go.Proofs.YthlileddhgglnaaGreatDoor
open Go.RowKit
theorem ediv_between {n h lo hi : Int} (hh : 0 < h) (h1 : lo * h ≤ n) (h2 : n ≤ hi * h) : lo ≤ n / h ∧ n / h ≤ hi := by
 constructor
 ·exact (Int.le_ediv_iff_mul_le hh).2 h1
 ·have : n / h < hi + 1 := (Int.ediv_lt_iff_lt_mul hh).2 (by rw [Int.add_mul]; omega)
  omega
theorem mdQ_between {n h lo hi : Int} (hh : 0 < h) (h1 : lo * h ≤ n) (h2 : n ≤ hi * h) (up : Bool) : lo ≤ mdQ n h up ∧ mdQ n h up ≤ hi := by
 unfold mdQ
 cases up
 ·exact ediv_between hh h1 h2
 ·have := ediv_between (n := -n) (lo := -hi) (hi := -lo) hh (by rw [Int.neg_mul]; omega) (by rw [Int.neg_mul]; omega)
  simp only [if_true]
  omega
theorem mdQ_ways {n h : Int} (hh : 0 < h) : mdQ n h false ≤ mdQ n h true ∧ mdQ n h true ≤ mdQ n h false + 1 := by
 have h1 := Int.ediv_mul_le n (show h ≠ 0 by omega)
 have h2 := Int.lt_ediv_add_one_mul_self n hh
 have h3 := mdQ_between (n := n) (h := h) (lo := n / h) (hi := n / h + 1) hh h1 (by omega) true
 have e : mdQ n h false = n / h := rfl
 rw [e]
 exact h3
theorem mq_pos (d at_ h : Int) (hh : 0 < h) (up : Bool) : mq d at_ h up = mdQ (d * at_) h up := by
 unfold mq
 rw [if_neg (by omega), show (h.natAbs : Int) = h by omega]
def sideM (x0 x1 at_ h : Int) (up : Bool) : Int := x0 + mv (x1 - x0) at_ h up
theorem side_mq {x0 x1 at_ h : Int} (h0 : 0 ≤ at_) (h1 : at_ ≤ h) (hh : 1 ≤ h) (up : Bool) :
  min 0 (x1 - x0) ≤ mq (x1 - x0) at_ h up ∧ mq (x1 - x0) at_ h up ≤ max 0 (x1 - x0) := by
 rw [mq_pos _ _ _ (by omega)]
 by_cases hd : 0 ≤ x1 - x0
 ·have a1 : 0 ≤ (x1 - x0) * at_ := Int.mul_nonneg hd h0
  have a2 : (x1 - x0) * at_ ≤ (x1 - x0) * h := Int.mul_le_mul_of_nonneg_left h1 hd
  have := mdQ_between (n := (x1 - x0) * at_) (h := h) (lo := 0) (hi := x1 - x0) (by omega) (by omega) a2 up
  omega
 ·have e : (x1 - x0) * at_ = -((x0 - x1) * at_) := by rw [← Int.neg_mul]; congr 1; omega
  have a1 : 0 ≤ (x0 - x1) * at_ := Int.mul_nonneg (by omega) h0
  have a2 : (x0 - x1) * at_ ≤ (x0 - x1) * h := Int.mul_le_mul_of_nonneg_left h1 (by omega)
  have e2 : (x1 - x0) * h = -((x0 - x1) * h) := by rw [← Int.neg_mul]; congr 1; omega
  have := mdQ_between (n := (x1 - x0) * at_) (h := h) (lo := x1 - x0) (hi := 0) (by omega) (by omega) (by omega) up
  omega
theorem side_fits {x0 x1 at_ h : Int} (a0 : 0 ≤ x0) (b0 : x0 ≤ 20000) (a1 : 0 ≤ x1) (b1 : x1 ≤ 20000) (h0 : 0 ≤ at_) (h1 : at_ ≤ h) (hh : 1 ≤ h) (up : Bool) :
  me (x1 - x0) at_ h up = 0 ∧ mv (x1 - x0) at_ h up = mq (x1 - x0) at_ h up ∧ min x0 x1 ≤ sideM x0 x1 at_ h up ∧ sideM x0 x1 at_ h up ≤ max x0 x1 := by
 have hq := side_mq (x0 := x0) (x1 := x1) h0 h1 hh up
 have hI : I64 (mq (x1 - x0) at_ h up) := by unfold I64; omega
 have e1 : mv (x1 - x0) at_ h up = mq (x1 - x0) at_ h up := by rw [mv, if_neg (by omega), qv_yes hI]
 refine ⟨by rw [me, if_neg (by omega), qe_yes hI], e1, ?_, ?_⟩
 all_goals
  unfold sideM
  rw [e1]
  omega
theorem side_ways {x0 x1 at_ h : Int} (a0 : 0 ≤ x0) (b0 : x0 ≤ 20000) (a1 : 0 ≤ x1) (b1 : x1 ≤ 20000) (h0 : 0 ≤ at_) (h1 : at_ ≤ h) (hh : 1 ≤ h) :
  sideM x0 x1 at_ h false ≤ sideM x0 x1 at_ h true ∧ sideM x0 x1 at_ h true ≤ sideM x0 x1 at_ h false + 1 := by
 unfold sideM
 rw [(side_fits a0 b0 a1 b1 h0 h1 hh false).2.1, (side_fits a0 b0 a1 b1 h0 h1 hh true).2.1, mq_pos _ _ _ (by omega), mq_pos _ _ _ (by omega)]
 have := mdQ_ways (n := (x1 - x0) * at_) (h := h) (by omega)
 omega
end Go.Proofs.YthlileddhgglnaaGreatDoor
namespace Go.Proofs.YthlileddhgglnaaGreatDoor
open Go.RowKit
def sideOf (s : Sec) (at_ : Int) (up : Bool) : Int × Int :=
 if 1 ≤ s.h ∧ inB s.a0 0 20000 = true ∧ inB s.a1 0 20000 = true ∧ inB s.b0 0 20000 = true ∧ inB s.b1 0 20000 = true then
  (sideM s.a0 s.a1 (min (max at_ 0) s.h) s.h up, if s.r then 0 else sideM s.b0 s.b1 (min (max at_ 0) s.h) s.h up)
 else (0, 0)
theorem sideOf_ok {s : Sec} (h : secOk s = true) (at_ : Int) (up : Bool) : sideOf s at_ up = (sideM s.a0 s.a1 (min (max at_ 0) s.h) s.h up, if s.r then 0 else sideM s.b0 s.b1 (min (max at_ 0) s.h) s.h up) := by
 obtain ⟨h1, h2, h3, h4, h5, h6, h7, h8, h9, h10, _⟩ := secOk_all h
 unfold sideOf
 rw [if_pos ⟨h1, inB_iff.2 ⟨h3, h4⟩, inB_iff.2 ⟨by omega, h6⟩, inB_iff.2 ⟨h7, h8⟩, inB_iff.2 ⟨h9, h10⟩⟩]
end Go.Proofs.YthlileddhgglnaaGreatDoor
namespace Go.Proofs.YthlileddhgglnaaGreatDoor
open Go.RowKit
def areaM (r : Bool) (a b : Int) (up : Bool) : Int :=
 if r then (if up then (a * a * 355 + 451) / 452 else a * a * 333 / 424) else a * b
def lowA (s : Sec) (t : Int) : Int := areaM s.r (min (sideOf s t false).1 (sideOf s (t + 100) false).1) (min (sideOf s t false).2 (sideOf s (t + 100) false).2) false
def highA (s : Sec) (t : Int) : Int := areaM s.r (max (sideOf s t true).1 (sideOf s (t + 100) true).1) (max (sideOf s t true).2 (sideOf s (t + 100) true).2) true
def slOf (s : Sec) : List (Int × Int) := (List.range (s.h / 100).toNat).map fun (j : Nat) => (100 * lowA s (100 * (j : Int)), 100 * highA s (100 * (j : Int)))
def slAll (l : List Sec) : List (Int × Int) := l.flatMap slOf
def lowT (L : List (Int × Int)) (k : Nat) : Int := ((L.take k).map Prod.fst).sum
def highT (L : List (Int × Int)) (k : Nat) : Int := ((L.take k).map Prod.snd).sum
theorem mul_le {a b c d : Int} (h0 : 0 ≤ a) (h1 : a ≤ c) (h2 : 0 ≤ b) (h3 : b ≤ d) : a * b ≤ c * d :=
 Int.le_trans (Int.mul_le_mul_of_nonneg_left h3 h0) (Int.mul_le_mul_of_nonneg_right h1 (by omega))
theorem area_le {r : Bool} {a b c d : Int} (h0 : 0 ≤ a) (h1 : a ≤ c) (h2 : 0 ≤ b) (h3 : b ≤ d) (u v : Bool) (huv : u = true → v = true) : areaM r a b u ≤ areaM r c d v := by
 unfold areaM
 cases r
 ·exact mul_le h0 h1 h2 h3
 ·have h4 := mul_le h0 h1 h0 h1
  have h5 := Int.mul_nonneg h0 h0
  cases u <;> cases v <;> simp at huv ⊢ <;> omega
theorem area_nonneg {r : Bool} {a b : Int} (h0 : 0 ≤ a) (h2 : 0 ≤ b) (u : Bool) : 0 ≤ areaM r a b u := by
 unfold areaM
 have h4 := Int.mul_nonneg h0 h0
 have h5 := Int.mul_nonneg h0 h2
 cases r
 ·exact h5
 ·cases u <;> simp <;> omega
theorem area_small {r : Bool} {a b : Int} (h0 : 0 ≤ a) (h1 : a ≤ 20000) (h2 : 0 ≤ b) (h3 : b ≤ 20000) (u : Bool) : areaM r a b u ≤ 400000000 := by
 unfold areaM
 have h4 := mul_le h0 h1 h0 h1
 have h5 := mul_le h0 h1 h2 h3
 cases r
 ·simp; omega
 ·cases u <;> simp <;> omega
theorem area_pos {r : Bool} {a b : Int} (h0 : 1 ≤ a) (h1 : r = false → 1 ≤ b) : 1 ≤ areaM r a b true := by
 unfold areaM
 have h4 := mul_le (a := 1) (b := 1) (by omega) h0 (by omega) h0
 cases r
 ·have := mul_le (a := 1) (b := 1) (by omega) h0 (by omega) (h1 rfl)
  simp; omega
 ·simp; omega
theorem sideOf_in {s : Sec} (h : secOk s = true) (t : Int) (up : Bool) : 0 ≤ (sideOf s t up).1 ∧ (sideOf s t up).1 ≤ 20000 ∧ 0 ≤ (sideOf s t up).2 ∧ (sideOf s t up).2 ≤ 20000 := by
 obtain ⟨h1, h2, h3, h4, h5, h6, h7, h8, h9, h10, _⟩ := secOk_all h
 rw [sideOf_ok h]
 obtain ⟨_, _, f1, f2⟩ := side_fits h3 h4 (by omega) h6 (show 0 ≤ min (max t 0) s.h by omega) (by omega) h1 up
 obtain ⟨_, _, g1, g2⟩ := side_fits h7 h8 h9 h10 (show 0 ≤ min (max t 0) s.h by omega) (by omega) h1 up
 refine ⟨by simp only; omega, by simp only; omega, ?_, ?_⟩
 ·cases s.r <;> simp <;> omega
 ·cases s.r <;> simp <;> omega
theorem sideOf_ways {s : Sec} (h : secOk s = true) (t : Int) : (sideOf s t false).1 ≤ (sideOf s t true).1 ∧ (sideOf s t false).2 ≤ (sideOf s t true).2 := by
 obtain ⟨h1, h2, h3, h4, h5, h6, h7, h8, h9, h10, _⟩ := secOk_all h
 rw [sideOf_ok h, sideOf_ok h]
 have f := side_ways h3 h4 (by omega) h6 (show 0 ≤ min (max t 0) s.h by omega) (by omega) h1
 have g := side_ways h7 h8 h9 h10 (show 0 ≤ min (max t 0) s.h by omega) (by omega) h1
 refine ⟨f.1, ?_⟩
 cases s.r <;> simp <;> omega
theorem side_pos {x0 x1 t h : Int} (a0 : 0 ≤ x0) (b0 : x0 ≤ 20000) (a1 : 1 ≤ x1) (b1 : x1 ≤ 20000) (h0 : 1 ≤ t) (h1 : t ≤ h) : 1 ≤ sideM x0 x1 t h true := by
 obtain ⟨_, e, _, _⟩ := side_fits a0 b0 (show 0 ≤ x1 by omega) b1 (show 0 ≤ t by omega) h1 (by omega) true
 unfold sideM
 rw [e, mq_pos _ _ _ (by omega)]
 have hq : (x1 - x0) * t ≤ mdQ ((x1 - x0) * t) h true * h := by
  unfold mdQ
  simp only [if_true]
  have := Int.ediv_mul_le (-((x1 - x0) * t)) (show h ≠ 0 by omega)
  rw [Int.neg_mul]
  omega
 generalize mdQ ((x1 - x0) * t) h true = q at *
 by_cases c : 1 ≤ x0 + q
 ·exact c
 ·exfalso
  have h2 : q * h ≤ (-x0) * h := Int.mul_le_mul_of_nonneg_right (by omega) (by omega)
  have h3 : (x1 - x0) * t + x0 * h = x1 * t + x0 * (h - t) := by rw [Int.sub_mul, Int.mul_sub]; omega
  have h4 : 1 * 1 ≤ x1 * t := mul_le (by omega) a1 (by omega) h0
  have h5 : 0 ≤ x0 * (h - t) := Int.mul_nonneg a0 (by omega)
  rw [Int.neg_mul] at h2
  omega
theorem sideOf_pos {s : Sec} (h : secOk s = true) (t : Int) (ht : 1 ≤ t) : 1 ≤ (sideOf s t true).1 ∧ (s.r = false → 1 ≤ (sideOf s t true).2) := by
 obtain ⟨h1, h2, h3, h4, h5, h6, h7, h8, h9, h10, _⟩ := secOk_all h
 rw [sideOf_ok h]
 refine ⟨side_pos h3 h4 h5 h6 (by omega) (by omega), fun hr => ?_⟩
 have hb1 : 1 ≤ s.b1 := by
  unfold secOk at h
  rw [hr] at h
  simp only [Bool.and_eq_true, decide_eq_true_eq, inB_iff] at h
  have := h.2
  simp [inB_iff] at this
  omega
 simp [hr]
 exact side_pos h7 h8 hb1 h10 (by omega) (by omega)
theorem slice_bounds {s : Sec} (h : secOk s = true) (t : Int) (ht : 0 ≤ t) : 0 ≤ lowA s t ∧ lowA s t ≤ highA s t ∧ 1 ≤ highA s t ∧ highA s t ≤ 400000000 := by
 obtain ⟨a1, a2, a3, a4⟩ := sideOf_in h t false
 obtain ⟨b1, b2, b3, b4⟩ := sideOf_in h (t + 100) false
 obtain ⟨c1, c2, c3, c4⟩ := sideOf_in h t true
 obtain ⟨d1, d2, d3, d4⟩ := sideOf_in h (t + 100) true
 obtain ⟨e1, e2⟩ := sideOf_ways h t
 obtain ⟨f1, f2⟩ := sideOf_pos h (t + 100) (by omega)
 unfold lowA highA
 refine ⟨area_nonneg (by omega) (by omega) _, area_le (by omega) (by omega) (by omega) (by omega) _ _ (by simp), area_pos (by omega) (fun hr => by have := f2 hr; omega), area_small (by omega) (by omega) (by omega) (by omega) _⟩
structure Bnd (x : Int × Int) : Prop where
 a : 0 ≤ x.1
 b : x.1 ≤ x.2
 c : 1 ≤ x.2
 d : x.2 ≤ 40000000000
theorem slOf_bnd {s : Sec} (h : secOk s = true) : ∀ x ∈ slOf s, Bnd x := by
 intro x hx
 unfold slOf at hx
 obtain ⟨j, _, rfl⟩ := List.mem_map.1 hx
 obtain ⟨a, b, c, d⟩ := slice_bounds h (100 * (j : Int)) (by omega)
 exact ⟨by simp only; omega, by simp only; omega, by simp only; omega, by simp only; omega⟩
theorem slAll_bnd {l : List Sec} (h : ∀ s ∈ l, secOk s = true) : ∀ x ∈ slAll l, Bnd x := by
 intro x hx
 obtain ⟨s, hs, hx⟩ := List.mem_flatMap.1 hx
 exact slOf_bnd (h s hs) x hx
theorem lowT_succ (L : List (Int × Int)) (k : Nat) (x : Int × Int) (h : L[k]? = some x) : lowT L (k + 1) = lowT L k + x.1 := by
 unfold lowT
 rw [List.take_add_one, h]
 simp
theorem highT_succ (L : List (Int × Int)) (k : Nat) (x : Int × Int) (h : L[k]? = some x) : highT L (k + 1) = highT L k + x.2 := by
 unfold highT
 rw [List.take_add_one, h]
 simp
theorem table_bnd {L : List (Int × Int)} (h : ∀ x ∈ L, Bnd x) : ∀ k : Nat, 0 ≤ lowT L k ∧ lowT L k ≤ highT L k ∧ highT L k ≤ 40000000000 * (k : Int)
 | 0 => by simp [lowT, highT]
 | k + 1 => by
  have ih := table_bnd h k
  cases hg : L[k]? with
  | none =>
   have e : L.take (k + 1) = L.take k := by rw [List.take_add_one, hg]; simp
   unfold lowT highT at *
   rw [e]
   omega
  | some x =>
   obtain ⟨a, b, c, d⟩ := h x (List.mem_of_getElem? hg)
   rw [lowT_succ L k x hg, highT_succ L k x hg]
   omega
theorem slAll_append (l m : List Sec) : slAll (l ++ m) = slAll l ++ slAll m := by
 unfold slAll
 rw [List.flatMap_append]
theorem lowT_left (L M : List (Int × Int)) (i : Nat) (h : i ≤ L.length) : lowT (L ++ M) i = lowT L i := by
 unfold lowT
 rw [List.take_append_of_le_length h]
theorem slOf_len (s : Sec) : (slOf s).length = (s.h / 100).toNat := by simp [slOf]
theorem secOk_mod {s : Sec} (h : secOk s = true) : s.h % 100 = 0 := by
 unfold secOk at h
 simp only [Bool.and_eq_true, decide_eq_true_eq] at h
 have h1 := h.1.1.1.1.1
 have h2 := h.1.1.1.2
 rwa [Int.tmod_eq_emod_of_nonneg (by omega)] at h2
theorem slAll_len : ∀ (l : List Sec), (∀ s ∈ l, secOk s = true) → 100 * ((slAll l).length : Int) = hsumI l l.length
 | [], _ => by simp [slAll, hsumI]
 | s :: l, h => by
  have ih := slAll_len l (fun x hx => h x (List.mem_cons_of_mem _ hx))
  have h0 := h s List.mem_cons_self
  have h1 := secOk_h s h0
  have h2 := secOk_mod h0
  have e : hsumI (s :: l) (s :: l).length = s.h + hsumI l l.length := by
   unfold hsumI
   rw [List.take_length, List.take_length, List.foldl_cons]
   have : ∀ (m : List Sec) (a : Int), m.foldl (fun t x => t + x.h) a = a + m.foldl (fun t x => t + x.h) 0 := by
    intro m
    induction m with
    | nil => simp
    | cons y m ih => intro a; rw [List.foldl_cons, List.foldl_cons, ih, ih (0 + y.h)]; omega
   rw [this]; omega
  have e2 : (slAll (s :: l)).length = (s.h / 100).toNat + (slAll l).length := by
   show (slOf s ++ slAll l).length = _
   rw [List.length_append, slOf_len]
  rw [e, e2]
  omega
def Sec.wide (d : Int) (s : Sec) : Sec := ⟨s.r, s.h, s.a0 + d, s.b0, s.a1 + d, s.b1⟩
inductive AllLe : List (Int × Int) → List (Int × Int) → Prop
 | nil : AllLe [] []
 | cons {x y : Int × Int} {L M : List (Int × Int)} (h1 : x.1 ≤ y.1) (h2 : x.2 ≤ y.2) (h : AllLe L M) : AllLe (x :: L) (y :: M)
theorem AllLe.append {L M L' M' : List (Int × Int)} (h : AllLe L M) (h' : AllLe L' M') : AllLe (L ++ L') (M ++ M') := by
 induction h with
 | nil => exact h'
 | cons h1 h2 _ ih => exact .cons h1 h2 ih
theorem AllLe.map {α : Type} (f g : α → Int × Int) (h : ∀ a, (f a).1 ≤ (g a).1 ∧ (f a).2 ≤ (g a).2) : ∀ l : List α, AllLe (l.map f) (l.map g)
 | [] => .nil
 | a :: l => .cons (h a).1 (h a).2 (AllLe.map f g h l)
theorem AllLe.sums {L M : List (Int × Int)} (h : AllLe L M) : ∀ k, lowT L k ≤ lowT M k ∧ highT L k ≤ highT M k := by
 induction h with
 | nil => intro k; simp [lowT, highT]
 | cons h1 h2 _ ih =>
  intro k
  cases k with
  | zero => simp [lowT, highT]
  | succ k =>
   have := ih k
   unfold lowT highT at *
   simp only [List.take_succ_cons, List.map_cons, List.sum_cons]
   omega
end Go.Proofs.YthlileddhgglnaaGreatDoor
