/-
  Steps of protocols: which may be, how they are said, how they lie in memory. No program is named here; What becomes of the world where blocks of known kinds may turn, from a base on. No program is named here; What lines of protocols tell. No program is named here; A step under way: its box, its wells in a row that the call owns; Steps in a row that the call owns. No program is named here; Steps and places under way: rows that the call owns, rows in rows; A deck's three slices; whose name a name is. No program is named here; Decks whose wares are in bounds. No program is named here; Contract of the document's number of a well; Contracts of the document's own names.
-/
import Derived.Test.YtjdkhobkdlldnaaGreatDoorChecked
import Derived.KernelRfl
import Derived.Lib.Hide
import Derived.Test.YtjdkhobkdlldnaaGreatDoorY1
import Derived.Test.YtjdkhobkdlldnaaGreatDoorY2
import Derived.Test.YtjdkhobkdlldnaaGreatDoorY3
namespace Go.Proofs.YtjdkhobkdlldnaaGreatDoor
open Go.RowKit
set_option linter.unusedVariables false
/-- A well: a ware's name, row, column. -/
structure Wp where
  n : ByteArray
  r : Int
  c : Int
/-- A step: its kind, a name, wells, a volume, a number. -/
structure Sp where
  k : Int
  n : ByteArray
  w : List Wp
  v : Int
  m : Int
def Wp.t (p : Wp) : List UInt8 := wellT p.n p.r p.c
def wellsOk (l : List Wp) : Bool := l.all fun p => !p.t.isEmpty
def stepK (s : Sp) : Bool :=
  if s.k = 0 then nameS s.n && decide (s.w.length = 0) && decide (s.v = 0) && decide (s.m = 0)
  else if s.k = 1 then (s.n.toList == []) && decide (s.w.length = 0) && decide (s.v = 0) && (decide (s.m = 0) || decide (s.m = 1))
  else if s.k = 5 then (s.n.toList == []) && decide (s.w.length = 1) && inB s.v 1 20000000 && inB s.m 1 20
  else if s.k = 2 ∨ s.k = 3 ∨ s.k = 4 ∨ s.k = 6 then (s.n.toList == []) && decide (s.m = 0) && inB s.v 1 20000000 && decide (2 ≤ s.w.length) && decide (s.w.length ≤ 96) && (decide (s.k ≠ 2) || decide (s.w.length = 2))
  else false
/-- Which steps may be. -/
def stepOk (s : Sp) : Bool := wellsOk s.w && stepK s
def stepsOk (l : List Sp) : Bool := decide (l.length ≤ 200) && l.all stepOk
structure WpAt (w : World) (p : Addr) (f : Wp) : Prop where
  n : w.cell? p = some (.string f.n)
  r : w.cell? ⟨p.block, p.off + 1, none⟩ = some (.int .i64 f.r)
  c : w.cell? ⟨p.block, p.off + 2, none⟩ = some (.int .i64 f.c)
theorem WpAt.keepB {w w' : World} {p : Addr} {f : Wp} (h : WpAt w p f) (q : B w w') : WpAt w' p f := ⟨q.keep h.n, q.keep h.r, q.keep h.c⟩
/-- Wells in memory. -/
def IsWps (w : World) (v : Value) (L : List Wp) : Prop :=
  (v = .slice none 0 0 ∧ L = []) ∨
  ∃ (a : Addr) (cap : Nat), v = .slice (some a) L.length cap ∧ L.length ≤ cap ∧ cap ≤ maxLen ∧ ∀ i f, L[i]? = some f → WpAt w (a.add (i * 3)) f
theorem IsWps.keepB {w w' : World} {v : Value} {L : List Wp} (h : IsWps w v L) (q : B w w') : IsWps w' v L := by
  rcases h with h | ⟨a, cap, h1, h2, h3, h4⟩
  · exact .inl h
  · exact .inr ⟨a, cap, h1, h2, h3, fun i f hf => (h4 i f hf).keepB q⟩
theorem IsWps.form {w : World} {v : Value} {L : List Wp} (h : IsWps w v L) : ∃ ao cap, v = .slice ao L.length cap := by
  rcases h with ⟨rfl, rfl⟩ | ⟨a, cap, rfl, _⟩
  · exact ⟨_, _, rfl⟩
  · exact ⟨_, _, rfl⟩
theorem IsWps.at_ {w : World} {v : Value} {L : List Wp} (h : IsWps w v L) {i : Nat} (hi : i < L.length) : ∃ (a : Addr) (cap : Nat), v = .slice (some a) L.length cap ∧ L.length ≤ cap ∧ cap ≤ maxLen ∧ WpAt w (a.add (i * 3)) L[i] := by
  rcases h with ⟨_, rfl⟩ | ⟨a, cap, h1, h2, h3, h4⟩
  · simp at hi
  · exact ⟨a, cap, h1, h2, h3, h4 i _ (List.getElem?_eq_getElem hi)⟩
theorem IsWps.len {w : World} {v : Value} {L : List Wp} (h : IsWps w v L) : L.length ≤ 9223372036854775807 := by
  rcases h with ⟨_, rfl⟩ | ⟨a, cap, _, h2, h3, _⟩
  · simp
  · exact len_max h2 h3
/-- A step in memory. -/
structure SpAt (w : World) (p : Addr) (s : Sp) : Prop where
  k : w.cell? p = some (.int .i64 s.k)
  n : w.cell? ⟨p.block, p.off + 1, none⟩ = some (.string s.n)
  ws : ∃ v, w.cell? ⟨p.block, p.off + 2, none⟩ = some v ∧ IsWps w v s.w
  v : w.cell? ⟨p.block, p.off + 3, none⟩ = some (.int .i64 s.v)
  m : w.cell? ⟨p.block, p.off + 4, none⟩ = some (.int .i64 s.m)
theorem SpAt.keepB {w w' : World} {p : Addr} {s : Sp} (h : SpAt w p s) (q : B w w') : SpAt w' p s :=
  ⟨q.keep h.k, q.keep h.n, let ⟨v, h1, h2⟩ := h.ws; ⟨v, q.keep h1, h2.keepB q⟩, q.keep h.v, q.keep h.m⟩
def IsSps (w : World) (v : Value) (L : List Sp) : Prop :=
  (v = .slice none 0 0 ∧ L = []) ∨
  ∃ (a : Addr) (cap : Nat), v = .slice (some a) L.length cap ∧ L.length ≤ cap ∧ cap ≤ maxLen ∧ ∀ i f, L[i]? = some f → SpAt w (a.add (i * 5)) f
theorem IsSps.keepB {w w' : World} {v : Value} {L : List Sp} (h : IsSps w v L) (q : B w w') : IsSps w' v L := by
  rcases h with h | ⟨a, cap, h1, h2, h3, h4⟩
  · exact .inl h
  · exact .inr ⟨a, cap, h1, h2, h3, fun i f hf => (h4 i f hf).keepB q⟩
theorem IsSps.form {w : World} {v : Value} {L : List Sp} (h : IsSps w v L) : ∃ ao cap, v = .slice ao L.length cap := by
  rcases h with ⟨rfl, rfl⟩ | ⟨a, cap, rfl, _⟩
  · exact ⟨_, _, rfl⟩
  · exact ⟨_, _, rfl⟩
theorem IsSps.at_ {w : World} {v : Value} {L : List Sp} (h : IsSps w v L) {i : Nat} (hi : i < L.length) : ∃ (a : Addr) (cap : Nat), v = .slice (some a) L.length cap ∧ L.length ≤ cap ∧ cap ≤ maxLen ∧ SpAt w (a.add (i * 5)) L[i] := by
  rcases h with ⟨_, rfl⟩ | ⟨a, cap, h1, h2, h3, h4⟩
  · simp at hi
  · exact ⟨a, cap, h1, h2, h3, h4 i _ (List.getElem?_eq_getElem hi)⟩
theorem IsSps.len {w : World} {v : Value} {L : List Sp} (h : IsSps w v L) : L.length ≤ 9223372036854775807 := by
  rcases h with ⟨_, rfl⟩ | ⟨a, cap, _, h2, h3, _⟩
  · simp
  · exact len_max h2 h3
end Go.Proofs.YtjdkhobkdlldnaaGreatDoor

namespace Go.Proofs.YtjdkhobkdlldnaaGreatDoor
open Go.RowKit
/-- What a block is: cells of a type, or a map. -/
def kindO : Obj → Option (Option TypeId)
  | .cells _ t (0, 0) => some (some t)
  | .map _ _ => some none
  | _ => none
/-- Of what was there nothing turns but blocks from the base on, of known kinds; and they stay what they are. -/
structure Tn (K : List (Option TypeId)) (base : Nat) (w w' : World) : Prop where
  os : w'.os = w.os
  tape : w'.tape = w.tape
  output : w'.output = w.output
  size : w.heap.size ≤ w'.heap.size
  block : ∀ i, i < w.heap.size → w'.heap[i]? = w.heap[i]? ∨ (base ≤ i ∧ ∃ k o, k ∈ K ∧ w.heap[i]? = some o ∧ kindO o = some k)
section
variable {K : List (Option TypeId)} {base : Nat} {a b c w w' : World}
theorem Tn.refl (K : List (Option TypeId)) (base : Nat) (w : World) : Tn K base w w := ⟨rfl, rfl, rfl, Nat.le_refl _, fun _ _ => .inl rfl⟩
theorem Tn.trans (h : Tn K base a b) (k : Tn K base b c) : Tn K base a c := by
  refine ⟨k.os.trans h.os, k.tape.trans h.tape, k.output.trans h.output, Nat.le_trans h.size k.size, fun i hi => ?_⟩
  rcases h.block i hi with h1 | h1
  · rcases k.block i (Nat.lt_of_lt_of_le hi h.size) with k1 | ⟨k1, q', p, hq', k2, k3⟩
    · exact .inl (k1.trans h1)
    · exact .inr ⟨k1, q', p, hq', h1 ▸ k2, k3⟩
  · exact .inr h1
theorem Tn.mono {K' : List (Option TypeId)} {base' : Nat} (h : Tn K base a b) (hK : ∀ k ∈ K, k ∈ K') (hb : base' ≤ base) : Tn K' base' a b :=
  ⟨h.os, h.tape, h.output, h.size, fun i hi => (h.block i hi).imp id fun ⟨h1, k, o, h2, h3⟩ => ⟨by omega, k, o, hK k h2, h3⟩⟩
theorem B.tn (h : B a b) (K : List (Option TypeId)) (base : Nat) : Tn K base a b := ⟨h.below.os, h.below.tape, h.below.output, h.below.size, fun i hi => .inl (h.below.block i hi)⟩
theorem Tn.below (h : Tn K base a b) {B0 : Nat} (hb : B0 ≤ base) (hs : B0 ≤ a.heap.size) : Below B0 a b :=
  ⟨h.os, h.tape, h.output, h.size, fun k hk => (h.block k (by omega)).elim id fun ⟨h1, _⟩ => by omega⟩
theorem Tn.toB {W : World} (h : Tn K base a b) (hB : B W a) (hb : W.heap.size ≤ base) : B W b := ⟨hB.below.trans (h.below hb hB.below.size)⟩
/-- A block of another kind stays. -/
theorem Tn.obj (h : Tn K base a b) {i : Nat} {o : Obj} (ho : a.heap[i]? = some o) (hk : ∀ k ∈ K, kindO o ≠ some k) : b.heap[i]? = some o := by
  rcases h.block i (Array.getElem?_eq_some_iff.1 ho).1 with h1 | ⟨_, k, p, h1, h2, h3⟩
  · exact h1.trans ho
  · obtain rfl : p = o := Option.some.inj (h2.symm.trans ho)
    exact absurd h3 (hk k h1)
theorem Tn.objc (h : Tn K base a b) {i : Nat} {cs : Array Value} {t : TypeId} (ho : a.heap[i]? = some (.cells cs t (0, 0))) (hK : some t ∉ K) : b.heap[i]? = some (.cells cs t (0, 0)) :=
  h.obj ho fun k hk e => by
    have : some t = k := Option.some.inj e
    exact hK (this ▸ hk)
theorem Tn.objm (h : Tn K base a b) {i : Nat} {es : Array MapEntry} {c : Nat} (ho : a.heap[i]? = some (.map es c)) (hK : none ∉ K) : b.heap[i]? = some (.map es c) :=
  h.obj ho fun k hk e => by
    have : none = k := Option.some.inj e
    exact hK (this ▸ hk)
theorem Tn.dr (h : Tn K base a b) (k : Dr b c) : Tn K base a c := by
  obtain ⟨n, rfl⟩ := k
  exact ⟨h.os, h.tape, h.output, h.size, h.block⟩
theorem Tn.drew (h : Tn K base a b) : Tn K base a b.drew := ⟨h.os, h.tape, h.output, h.size, h.block⟩
theorem Tn.drewN (h : Tn K base a b) (n : Nat) : Tn K base a (b.drewN n) := h.trans (((B.refl b).drewN n).tn K base)
theorem Tn.alloc (h : Tn K base a b) (cs : Array Value) (t : TypeId) : Tn K base a (b.alloc (.cells cs t)) := h.trans (((B.refl b).alloc cs t).tn K base)
theorem Tn.set (h : Tn K base a b) {p : Addr} {cs : Array Value} {t : TypeId} (ho : b.heap[p.block]? = some (.cells cs t (0, 0))) (hK : some t ∈ K) (hb : base ≤ p.block) (v : Value) : Tn K base a (b.setCell p v) := by
  refine h.trans ⟨rfl, rfl, rfl, by simp [World.setCell], fun i hi => ?_⟩
  by_cases e : i = p.block
  · subst e
    exact .inr ⟨hb, some t, .cells cs t (0, 0), hK, ho, rfl⟩
  · exact .inl (Below.heap_setCell _ _ _ _ e)
/-- The object of an own row. -/
theorem ownsRow_obj {base : Nat} {e : TypeId} {size n : Nat} {v : Value} {xs : List Value} (h : w.ownsRow base e size v n xs) {i : Nat} (hi : v.ownBlock = some i) : base ≤ i ∧ ∃ cs, w.heap[i]? = some (.cells cs e (0, 0)) := by
  rcases h.2 with ⟨rfl, _⟩ | ⟨g, cap, cur, rfl, hb, hg, _⟩
  · simp [Value.ownBlock] at hi
  · obtain rfl : g = i := by simpa [Value.ownBlock] using hi
    exact ⟨hb, cur, hg⟩
theorem Tn.appended (h : Tn K base a b) {base' : Nat} {e : TypeId} {size n : Nat} {v : Value} {xs : List Value} (ho : b.ownsRow base' e size v n xs)
    (g : b.grownBy c v.ownBlock) (hb : base ≤ base') (hK : some e ∈ K) : Tn K base a c := by
  refine h.trans ⟨g.os, g.tape, g.output, g.size, fun i hi => ?_⟩
  by_cases he : some i = v.ownBlock
  · obtain ⟨h1, cs, h2⟩ := ownsRow_obj ho he.symm
    exact .inr ⟨by omega, some e, _, hK, h2, rfl⟩
  · exact .inl (g.block i hi he)
/-- Rows of two types lie apart. -/
theorem rows_apart {b1 b2 : Nat} {e1 e2 : TypeId} {s1 s2 n1 n2 : Nat} {v1 v2 : Value} {x1 x2 : List Value} (h1 : w.ownsRow b1 e1 s1 v1 n1 x1) (h2 : w.ownsRow b2 e2 s2 v2 n2 x2) (he : e1 ≠ e2) : v1.ownBlock = none ∨ v1.ownBlock ≠ v2.ownBlock := by
  cases hv : v1.ownBlock with
  | none => exact .inl rfl
  | some i =>
    right
    intro e
    obtain ⟨_, cs, h3⟩ := ownsRow_obj h1 hv
    obtain ⟨_, cs', h4⟩ := ownsRow_obj h2 e.symm
    rw [h3] at h4
    cases h4
    exact he rfl
theorem obj_apart {b2 : Nat} {e2 : TypeId} {s2 n2 : Nat} {v2 : Value} {x2 : List Value} {i : Nat} {o : Obj} (ho : w.heap[i]? = some o) (h2 : w.ownsRow b2 e2 s2 v2 n2 x2) (he : kindO o ≠ some (some e2)) : v2.ownBlock ≠ some i := by
  intro e
  obtain ⟨_, cs', h4⟩ := ownsRow_obj h2 e
  rw [ho] at h4
  cases h4
  exact he rfl
theorem obj_grown {row : Option Nat} (g : w.grownBy w' row) {i : Nat} {o : Obj} (ho : w.heap[i]? = some o) (hr : row ≠ some i) : w'.heap[i]? = some o :=
  (g.block i (Array.getElem?_eq_some_iff.1 ho).1 (fun e => hr e.symm)).trans ho
end
end Go.Proofs.YtjdkhobkdlldnaaGreatDoor

namespace Go.Proofs.YtjdkhobkdlldnaaGreatDoor
open Go.RowKit
set_option linter.unusedVariables false
/-- Numbers in memory. -/
def IsIs (w : World) (v : Value) (l : List Nat) : Prop :=
  (v = .slice none 0 0 ∧ l = []) ∨
  ∃ (g cap : Nat), v = .slice (some ⟨g, 0, none⟩) l.length cap ∧ l.length ≤ cap ∧ cap ≤ maxLen ∧ g < w.heap.size ∧ ∀ i x, l[i]? = some x → w.cell? ⟨g, i, none⟩ = some (.int .i64 ((x : Nat) : Int))
theorem IsIs.block {w w' : World} {v : Value} {l : List Nat} (h : IsIs w v l) (hs : w.heap.size ≤ w'.heap.size) (hb : ∀ b, v.ownBlock = some b → b < w.heap.size → w'.heap[b]? = w.heap[b]?) : IsIs w' v l := by
  rcases h with h | ⟨g, cap, rfl, h1, h2, h3, h4⟩
  · exact .inl h
  · have e := hb g rfl h3
    exact .inr ⟨g, cap, rfl, h1, h2, by omega, fun i x hx => (World.cell?_of_block (a := ⟨g, i, none⟩) e).trans (h4 i x hx)⟩
theorem IsIs.keep {w w' : World} {v : Value} {l : List Nat} (h : IsIs w v l) (q : B w w') : IsIs w' v l := h.block q.below.size fun b _ hlt => q.below.block b hlt
theorem IsIs.form {w : World} {v : Value} {l : List Nat} (h : IsIs w v l) : ∃ ao cap, v = .slice ao l.length cap := by
  rcases h with ⟨rfl, rfl⟩ | ⟨g, cap, rfl, _⟩
  · exact ⟨_, _, rfl⟩
  · exact ⟨_, _, rfl⟩
def flatI (l : List Nat) : List Value := l.map fun x => .int .i64 ((x : Nat) : Int)
/-- Rows of numbers in a row that the call owns. -/
structure PlsO (w : World) (base : Nat) (e : TypeId) (v : Value) (LL : List (List Nat)) (vs : List Value) : Prop where
  len : vs.length = LL.length
  own : w.ownsRow base e 1 v LL.length vs
  row : ∀ (j : Nat) u l, vs[j]? = some u → LL[j]? = some l → IsIs w u l ∧ ∀ b, u.ownBlock = some b → v.ownBlock ≠ some b ∧ b < w.heap.size
theorem PlsO.nil (w : World) (base : Nat) (e : TypeId) : PlsO w base e (.slice none 0 0) [] [] := ⟨rfl, World.ownsRow_nil _ _ _ _, fun j u l h => by simp at h⟩
theorem PlsO.keep {w w' : World} {base : Nat} {e : TypeId} {v : Value} {LL : List (List Nat)} {vs : List Value} (h : PlsO w base e v LL vs) (q : B w w') : PlsO w' base e v LL vs :=
  ⟨h.len, row_keep h.own q, fun j u l hu hl => by
    obtain ⟨h1, h2⟩ := h.row j u l hu hl
    exact ⟨h1.keep q, fun b hb => ⟨(h2 b hb).1, Nat.lt_of_lt_of_le (h2 b hb).2 q.below.size⟩⟩⟩
/-- Rows of numbers in memory. -/
def IsPls (w : World) (v : Value) (LL : List (List Nat)) : Prop :=
  (v = .slice none 0 0 ∧ LL = []) ∨
  ∃ (g cap : Nat), v = .slice (some ⟨g, 0, none⟩) LL.length cap ∧ LL.length ≤ cap ∧ cap ≤ maxLen ∧ ∀ (i : Nat) l, LL[i]? = some l → ∃ u, w.cell? ⟨g, i, none⟩ = some u ∧ IsIs w u l
theorem IsPls.keep {w w' : World} {v : Value} {LL : List (List Nat)} (h : IsPls w v LL) (q : B w w') : IsPls w' v LL := by
  rcases h with h | ⟨g, cap, h1, h2, h3, h4⟩
  · exact .inl h
  · exact .inr ⟨g, cap, h1, h2, h3, fun i l hl => let ⟨u, k1, k2⟩ := h4 i l hl; ⟨u, q.keep k1, k2.keep q⟩⟩
theorem IsPls.form {w : World} {v : Value} {LL : List (List Nat)} (h : IsPls w v LL) : ∃ ao cap, v = .slice ao LL.length cap := by
  rcases h with ⟨rfl, rfl⟩ | ⟨g, cap, rfl, _⟩
  · exact ⟨_, _, rfl⟩
  · exact ⟨_, _, rfl⟩
theorem PlsO.is {w : World} {base : Nat} {e : TypeId} {v : Value} {LL : List (List Nat)} {vs : List Value} (h : PlsO w base e v LL vs) : IsPls w v LL := by
  have hown := h.own
  rcases hown.2 with ⟨h0, h1⟩ | ⟨g, cap, cur, rfl, _, _, h1, h2, _⟩
  · exact .inl ⟨h0, List.length_eq_zero_iff.1 (by omega)⟩
  · refine .inr ⟨g, cap, rfl, h1, h2, fun i l hl => ?_⟩
    have hi : i < LL.length := (List.getElem?_eq_some_iff.1 hl).1
    obtain ⟨u, hu⟩ : ∃ u, vs[i]? = some u := ⟨_, List.getElem?_eq_getElem (by rw [h.len]; exact hi)⟩
    exact ⟨u, by rw [h.own.cellAt i (by omega)]; exact hu, (h.row i u l hu hl).1⟩
def flatWp (l : List Wp) : List Value := l.flatMap fun p => [.string p.n, .int .i64 p.r, .int .i64 p.c]
theorem flatWp_len : ∀ l : List Wp, (flatWp l).length = l.length * 3
  | [] => rfl
  | p :: l => by
    have := flatWp_len l
    show ([Value.string p.n, .int .i64 p.r, .int .i64 p.c] ++ flatWp l).length = (l.length + 1) * 3
    rw [List.length_append, this]
    show 3 + l.length * 3 = _
    omega
theorem flatWp_get : ∀ (l : List Wp) (i : Nat) (p : Wp), l[i]? = some p → (flatWp l)[i * 3]? = some (.string p.n) ∧ (flatWp l)[i * 3 + 1]? = some (.int .i64 p.r) ∧ (flatWp l)[i * 3 + 2]? = some (.int .i64 p.c)
  | [], _, _, h => by simp at h
  | q :: l, 0, p, h => by
    simp only [List.getElem?_cons_zero, Option.some.injEq] at h
    subst h
    exact ⟨rfl, rfl, rfl⟩
  | q :: l, i + 1, p, h => by
    have := flatWp_get l i p (by simpa using h)
    show ([Value.string q.n, .int .i64 q.r, .int .i64 q.c] ++ flatWp l)[(i + 1) * 3]? = _ ∧ ([Value.string q.n, .int .i64 q.r, .int .i64 q.c] ++ flatWp l)[(i + 1) * 3 + 1]? = _ ∧ ([Value.string q.n, .int .i64 q.r, .int .i64 q.c] ++ flatWp l)[(i + 1) * 3 + 2]? = _
    refine ⟨?_, ?_, ?_⟩
    · rw [List.getElem?_append_right (by show 3 ≤ _; omega), show (i + 1) * 3 - [Value.string q.n, .int .i64 q.r, .int .i64 q.c].length = i * 3 by show _ - 3 = _; omega]; exact this.1
    · rw [List.getElem?_append_right (by show 3 ≤ _; omega), show (i + 1) * 3 + 1 - [Value.string q.n, .int .i64 q.r, .int .i64 q.c].length = i * 3 + 1 by show _ - 3 = _; omega]; exact this.2.1
    · rw [List.getElem?_append_right (by show 3 ≤ _; omega), show (i + 1) * 3 + 2 - [Value.string q.n, .int .i64 q.r, .int .i64 q.c].length = i * 3 + 2 by show _ - 3 = _; omega]; exact this.2.2
theorem isWps_own {w : World} {base : Nat} {e : TypeId} {v : Value} {l : List Wp} (h : w.ownsRow base e 3 v l.length (flatWp l)) : IsWps w v l := by
  rcases h.2 with ⟨h0, h1⟩ | ⟨g, cap, cur, rfl, hb, ho, h1, h2, h3⟩
  · exact .inl ⟨h0, List.length_eq_zero_iff.1 (by omega)⟩
  · refine .inr ⟨⟨g, 0, none⟩, cap, rfl, h1, h2, fun i p hp => ?_⟩
    have hi : i < l.length := (List.getElem?_eq_some_iff.1 hp).1
    obtain ⟨k1, k2, k3⟩ := flatWp_get l i p hp
    rw [addz]
    exact ⟨(h.cellAt (i * 3) (by omega)).trans k1, (h.cellAt (i * 3 + 1) (by omega)).trans k2, (h.cellAt (i * 3 + 2) (by omega)).trans k3⟩
end Go.Proofs.YtjdkhobkdlldnaaGreatDoor

namespace Go.Proofs.YtjdkhobkdlldnaaGreatDoor
open Go.RowKit
set_option linter.unusedVariables false
theorem own_slice {w : World} {base : Nat} {e : TypeId} {size n : Nat} {v : Value} {xs : List Value} (h : w.ownsRow base e size v n xs) : ∃ so sc, v = .slice so n sc := by
  rcases h.2 with ⟨h0, h1⟩ | ⟨g, cap, cur, rfl, _⟩
  · exact ⟨none, 0, by rw [h0, h1]⟩
  · exact ⟨_, _, rfl⟩
theorem far_ownU {w : World} {b2 : Nat} {e2 t : TypeId} {s2 n2 : Nat} {v2 : Value} {x2 : List Value} {i : Nat} {cs : Array Value} (ho : w.heap[i]? = some (.cells cs t (0, 0))) (h2 : w.ownsRow b2 e2 s2 v2 n2 x2) (he : t ≠ e2) : v2.ownBlock ≠ some i :=
  obj_apart ho h2 (fun e => he (by simpa [kindO] using e))
theorem own_tnU {K : List (Option TypeId)} {b base : Nat} {w w' : World} {e : TypeId} {size n : Nat} {v : Value} {xs : List Value} (h : w.ownsRow base e size v n xs) (t : Tn K b w w') (hK : some e ∉ K) : w'.ownsRow base e size v n xs := by
  refine ⟨h.1, ?_⟩
  rcases h.2 with hn | ⟨g, cap, cur, rfl, hb, hg, rest⟩
  · exact .inl hn
  · exact .inr ⟨g, cap, cur, rfl, hb, t.objc hg hK, rest⟩
theorem ownsRow_set {w : World} {base : Nat} {e : TypeId} {size n : Nat} {v : Value} {xs : List Value} (h : w.ownsRow base e size v n xs) {b : Nat} {cs : Array Value} {t : TypeId} (ho : w.heap[b]? = some (.cells cs t (0, 0))) (ht : t ≠ e) (k : Nat) (x : Value) : (w.setCell ⟨b, k, none⟩ x).ownsRow base e size v n xs :=
  own_tnU h (Tn.set (K := [some t]) (base := 0) (p := ⟨b, k, none⟩) (Tn.refl _ _ _) ho (by simp) (Nat.zero_le _) x) (by simp; exact fun h => ht h.symm)
structure StepU (w : World) (base b : Nat) (s : Sp) (wv : Value) : Prop where
  obj : w.heap[b]? = some (.cells #[.int .i64 s.k, .string s.n, wv, .int .i64 s.v, .int .i64 s.m] 67 (0, 0))
  row : w.ownsRow base 39 3 wv s.w.length (flatWp s.w)
theorem StepU.keep {w w' : World} {base b : Nat} {s : Sp} {wv : Value} (h : StepU w base b s wv) (q : B w w') : StepU w' base b s wv := ⟨q.obj h.obj, row_keep h.row q⟩
/-- Other boxes of steps stay. -/
def Oth (b : Nat) (w w' : World) : Prop := ∀ i cs, i ≠ b → w.heap[i]? = some (.cells cs 67 (0, 0)) → w'.heap[i]? = some (.cells cs 67 (0, 0))
theorem Oth.refl (b : Nat) (w : World) : Oth b w w := fun _ _ _ h => h
theorem Oth.trans {b : Nat} {u v w : World} (h : Oth b u v) (k : Oth b v w) : Oth b u w := fun i cs hi ho => k i cs hi (h i cs hi ho)
theorem Oth.b (b : Nat) {w w' : World} (q : B w w') : Oth b w w' := fun _ _ _ h => q.obj h
theorem Oth.set (b : Nat) (w : World) (k : Nat) (x : Value) : Oth b w (w.setCell ⟨b, k, none⟩ x) := fun i _ hi h => (Below.heap_setCell w ⟨b, k, none⟩ x i hi).trans h
theorem Oth.grown (b : Nat) {w w' : World} {base : Nat} {e : TypeId} {size n : Nat} {v : Value} {xs : List Value} (hg : w.grownBy w' v.ownBlock) (hr : w.ownsRow base e size v n xs) (he : 67 ≠ e) : Oth b w w' := fun _ _ _ h => obj_grown hg h (far_ownU h hr he)
end Go.Proofs.YtjdkhobkdlldnaaGreatDoor

namespace Go.Proofs.YtjdkhobkdlldnaaGreatDoor
open Go.RowKit
set_option linter.unusedVariables false
def Sp.cells (s : Sp) (u : Value) : List Value := [.int .i64 s.k, .string s.n, u, .int .i64 s.v, .int .i64 s.m]
def flatSp : List Sp → List Value → List Value
  | s :: SS, u :: vs => s.cells u ++ flatSp SS vs
  | _, _ => []
theorem flatSp_snoc : ∀ (SS : List Sp) (vs : List Value) (s : Sp) (u : Value), vs.length = SS.length → flatSp (SS ++ [s]) (vs ++ [u]) = flatSp SS vs ++ s.cells u
  | [], [], s, u, _ => by simp [flatSp]
  | [], _ :: _, s, u, h => by simp at h
  | _ :: _, [], s, u, h => by simp at h
  | t :: SS, v :: vs, s, u, h => by
    show t.cells v ++ flatSp (SS ++ [s]) (vs ++ [u]) = _
    rw [flatSp_snoc SS vs s u (by simpa using h), ← List.append_assoc]
    rfl
theorem flatSp_len : ∀ (SS : List Sp) (vs : List Value), vs.length = SS.length → (flatSp SS vs).length = SS.length * 5
  | [], [], _ => rfl
  | [], _ :: _, h => by simp at h
  | _ :: _, [], h => by simp at h
  | t :: SS, v :: vs, h => by
    have := flatSp_len SS vs (by simpa using h)
    show (t.cells v ++ flatSp SS vs).length = _
    rw [List.length_append, this, List.length_cons]
    show 5 + _ = _
    omega
theorem flatSp_get : ∀ (SS : List Sp) (vs : List Value) (i k : Nat) (s : Sp) (u : Value), vs.length = SS.length → SS[i]? = some s → vs[i]? = some u → k < 5 → (flatSp SS vs)[i * 5 + k]? = (s.cells u)[k]?
  | [], _, i, k, s, u, _, h, _, _ => by simp at h
  | _ :: _, [], i, k, s, u, h, _, _, _ => by simp at h
  | t :: SS, v :: vs, 0, k, s, u, h, h1, h2, hk => by
    simp only [List.getElem?_cons_zero, Option.some.injEq] at h1 h2
    subst h1 h2
    show (t.cells v ++ flatSp SS vs)[0 * 5 + k]? = _
    rw [List.getElem?_append_left (by show 0 * 5 + k < 5; omega), Nat.zero_mul, Nat.zero_add]
  | t :: SS, v :: vs, i + 1, k, s, u, h, h1, h2, hk => by
    simp only [List.getElem?_cons_succ] at h1 h2
    show (t.cells v ++ flatSp SS vs)[(i + 1) * 5 + k]? = _
    rw [List.getElem?_append_right (by show 5 ≤ (i + 1) * 5 + k; omega), show (i + 1) * 5 + k - (t.cells v).length = i * 5 + k by show (i + 1) * 5 + k - 5 = _; omega]
    exact flatSp_get SS vs i k s u (by simpa using h) h1 h2 hk
theorem IsWps.block {w w' : World} {v : Value} {L : List Wp} (h : IsWps w v L) (hb : ∀ b, v.ownBlock = some b → b < w.heap.size → w'.heap[b]? = w.heap[b]?) : IsWps w' v L := by
  rcases h with h | ⟨a, cap, rfl, h2, h3, h4⟩
  · exact .inl h
  · refine .inr ⟨a, cap, rfl, h2, h3, fun i f hf => ?_⟩
    obtain ⟨k1, k2, k3⟩ := h4 i f hf
    have hlt := World.block_lt_of_cell? w _ k1
    have hab : (a.add (i * 3)).block = a.block := by unfold Addr.add; split <;> rfl
    rw [hab] at hlt
    have e := hb a.block rfl hlt
    have e' : w'.heap[(a.add (i * 3)).block]? = w.heap[(a.add (i * 3)).block]? := by rw [hab]; exact e
    exact ⟨(World.cell?_of_block (a := a.add (i * 3)) e').trans k1, (World.cell?_of_block (a := ⟨(a.add (i * 3)).block, (a.add (i * 3)).off + 1, none⟩) e').trans k2, (World.cell?_of_block (a := ⟨(a.add (i * 3)).block, (a.add (i * 3)).off + 2, none⟩) e').trans k3⟩
/-- Steps in a row that the call owns; their wells lie elsewhere. -/
structure StepsO (w : World) (base : Nat) (e : TypeId) (v : Value) (SS : List Sp) (vs : List Value) : Prop where
  len : vs.length = SS.length
  own : w.ownsRow base e 5 v SS.length (flatSp SS vs)
  row : ∀ (j : Nat) u s, vs[j]? = some u → SS[j]? = some s → IsWps w u s.w ∧ ∀ b, u.ownBlock = some b → v.ownBlock ≠ some b ∧ b < w.heap.size
theorem StepsO.keep {w w' : World} {base : Nat} {e : TypeId} {v : Value} {SS : List Sp} {vs : List Value} (h : StepsO w base e v SS vs) (q : B w w') : StepsO w' base e v SS vs :=
  ⟨h.len, row_keep h.own q, fun j u s hu hs => by
    obtain ⟨h1, h2⟩ := h.row j u s hu hs
    exact ⟨h1.keepB q, fun b hb => ⟨(h2 b hb).1, Nat.lt_of_lt_of_le (h2 b hb).2 q.below.size⟩⟩⟩
/-- A step more. -/
theorem steps_more {w1 w2 : World} {base : Nat} {e : TypeId} {v : Value} {SS : List Sp} {vs : List Value} {g cap : Nat} {u : Value} {s : Sp} (h : StepsO w1 base e v SS vs)
    (own : w2.ownsRow base e 5 (.slice (some ⟨g, 0, none⟩) (SS.length + 1) cap) (SS.length + 1) (flatSp SS vs ++ s.cells u)) (q : w1.grownBy w2 v.ownBlock) (hat : v.ownBlock = some g ∨ g = w1.heap.size)
    (hu : IsWps w1 u s.w) (hb : ∀ b, u.ownBlock = some b → v.ownBlock ≠ some b ∧ b < w1.heap.size) :
    StepsO w2 base e (.slice (some ⟨g, 0, none⟩) (SS ++ [s]).length cap) (SS ++ [s]) (vs ++ [u]) := by
  have hlen := h.len
  have key : ∀ (u : Value) (L : List Wp), IsWps w1 u L → (∀ b, u.ownBlock = some b → v.ownBlock ≠ some b ∧ b < w1.heap.size) → IsWps w2 u L ∧ ∀ b, u.ownBlock = some b → (Value.slice (some ⟨g, 0, none⟩) (SS ++ [s]).length cap).ownBlock ≠ some b ∧ b < w2.heap.size := by
    intro u L hu hh
    refine ⟨hu.block fun b' hb' hlt' => q.block b' hlt' (fun e => (hh b' hb').1 e.symm), fun b hb => ⟨fun e => ?_, Nat.lt_of_lt_of_le (hh b hb).2 q.size⟩⟩
    have hg : g = b := Option.some.inj e
    rcases hat with hat | hat
    · exact (hh b hb).1 (hat.trans (congrArg some hg))
    · have := (hh b hb).2
      omega
  have elen : (SS ++ [s]).length = SS.length + 1 := by simp
  refine ⟨by simp [hlen], ?_, fun j x t hx ht => ?_⟩
  · rw [flatSp_snoc _ _ _ _ hlen, elen]
    exact own
  rcases Nat.lt_or_ge j SS.length with hj | hj
  · rw [List.getElem?_append_left (by omega)] at hx ht
    obtain ⟨h1, h2⟩ := h.row j x t hx ht
    exact key x _ h1 h2
  · have hj' : j = SS.length := by
      have := (List.getElem?_eq_some_iff.1 ht).1
      simp at this
      omega
    subst hj'
    rw [List.getElem?_append_right (by omega)] at hx ht
    simp only [Nat.sub_self, List.getElem?_cons_zero, Option.some.injEq] at ht
    rw [show SS.length - vs.length = 0 by omega] at hx
    simp only [List.getElem?_cons_zero, Option.some.injEq] at hx
    subst hx ht
    exact key _ _ hu hb
theorem StepsO.is {w : World} {base : Nat} {e : TypeId} {v : Value} {SS : List Sp} {vs : List Value} (h : StepsO w base e v SS vs) : IsSps w v SS := by
  have hown := h.own
  rcases hown.2 with ⟨h0, h1⟩ | ⟨g, cap, cur, rfl, _, _, h1, h2, _⟩
  · exact .inl ⟨h0, List.length_eq_zero_iff.1 (by omega)⟩
  · refine .inr ⟨⟨g, 0, none⟩, cap, rfl, h1, h2, fun i s hs => ?_⟩
    have hi : i < SS.length := (List.getElem?_eq_some_iff.1 hs).1
    obtain ⟨u, hu⟩ : ∃ u, vs[i]? = some u := ⟨_, List.getElem?_eq_getElem (by rw [h.len]; exact hi)⟩
    have hc : ∀ k, k < 5 → w.cell? ⟨g, i * 5 + k, none⟩ = (s.cells u)[k]? := fun k hk => by
      rw [h.own.cellAt (i * 5 + k) (by omega)]
      exact flatSp_get SS vs i k s u h.len hs hu hk
    have ha : (⟨g, 0, none⟩ : Addr).add (i * 5) = ⟨g, i * 5, none⟩ := addz g (i * 5)
    rw [ha]
    exact ⟨hc 0 (by omega), hc 1 (by omega), ⟨u, hc 2 (by omega), (h.row i u s hu hs).1⟩, hc 3 (by omega), hc 4 (by omega)⟩
/-- Three wells in a block. -/
theorem wps_three {w : World} {g : Nat} {p1 p2 p3 : Wp} {t : TypeId} {fz : Nat × Nat} (h : w.heap[g]? = some (.cells #[.string p1.n, .int .i64 p1.r, .int .i64 p1.c, .string p2.n, .int .i64 p2.r, .int .i64 p2.c, .string p3.n, .int .i64 p3.r, .int .i64 p3.c] t fz)) {n : Nat} (h1 : 1 ≤ n) (h3 : n ≤ 3) :
    IsWps w (.slice (some ⟨g, 0, none⟩) n 3) ([p1, p2, p3].take n) := by
  refine .inr ⟨⟨g, 0, none⟩, 3, by rw [List.length_take]; simp; omega, by rw [List.length_take]; simp; omega, by unfold maxLen; omega, fun i f hf => ?_⟩
  have hi : i < n := by
    have := (List.getElem?_eq_some_iff.1 hf).1
    rw [List.length_take] at this
    omega
  rw [List.getElem?_take_of_lt hi] at hf
  have hc : ∀ k, w.cell? ⟨g, k, none⟩ = _ := fun k => obj_cell h k
  rw [addz]
  match i, hf with
  | 0, hf => simp at hf; subst hf; exact ⟨hc 0, hc 1, hc 2⟩
  | 1, hf => simp at hf; subst hf; exact ⟨hc 3, hc 4, hc 5⟩
  | 2, hf => simp at hf; subst hf; exact ⟨hc 6, hc 7, hc 8⟩
  | i + 3, hf => omega
end Go.Proofs.YtjdkhobkdlldnaaGreatDoor

namespace Go.Proofs.YtjdkhobkdlldnaaGreatDoor
open Go.RowKit
set_option linter.unusedVariables false
theorem own_grownU {w w' : World} {b1 b2 : Nat} {e1 e2 : TypeId} {s1 s2 n1 n2 : Nat} {v1 v2 : Value} {x1 x2 : List Value} (h : w.ownsRow b1 e1 s1 v1 n1 x1) (hg : w.grownBy w' v2.ownBlock) (hr : w.ownsRow b2 e2 s2 v2 n2 x2) (he : e1 ≠ e2) : w'.ownsRow b1 e1 s1 v1 n1 x1 := by
  refine ⟨h.1, ?_⟩
  rcases h.2 with hn | ⟨g, cap, cur, rfl, hb, ho, rest⟩
  · exact .inl hn
  · exact .inr ⟨g, cap, cur, rfl, hb, obj_grown hg ho (far_ownU ho hr he), rest⟩
theorem own_lowU {w : World} {base base' : Nat} {e : TypeId} {size n : Nat} {v : Value} {xs : List Value} (h : w.ownsRow base e size v n xs) (hb : base' ≤ base) : w.ownsRow base' e size v n xs := by
  refine ⟨h.1, ?_⟩
  rcases h.2 with hn | ⟨g, cap, cur, rfl, hbg, rest⟩
  · exact .inl hn
  · exact .inr ⟨g, cap, cur, rfl, Nat.le_trans hb hbg, rest⟩
theorem results_tmp4 {fn : Func} {t u v x : Tmp} (h : fn.results = #[.tmp t, .tmp u, .tmp v, .tmp x]) (tmps : Array Value) (P : Program) (w : World) :
    (results fn tmps).run P w = .ok (.tuple #[tmps.getD t undef, tmps.getD u undef, tmps.getD v undef, tmps.getD x undef]) w := by
  simp [results, h]
structure StP (w : World) (base : Nat) (sv : Value) (S : List Sp) (vs : List Value) (ov : Value) (P : List (List Nat)) (us : List Value) : Prop where
  sl : vs.length = S.length
  so : w.ownsRow base 67 5 sv S.length (flatSp S vs)
  sr : ∀ (j : Nat) u s, vs[j]? = some u → S[j]? = some s → w.ownsRow base 39 3 u s.w.length (flatWp s.w)
  pl : us.length = P.length
  po : w.ownsRow base 69 1 ov P.length us
  pr : ∀ (j : Nat) u l, us[j]? = some u → P[j]? = some l → w.ownsRow base 3 1 u l.length (flatI l)
theorem StP.nil (w : World) (base : Nat) : StP w base (.slice none 0 0) [] [] (.slice none 0 0) [] [] :=
  ⟨rfl, World.ownsRow_nil _ _ _ _, fun j u s h => by simp at h, rfl, World.ownsRow_nil _ _ _ _, fun j u s h => by simp at h⟩
section
variable {w w' : World} {base : Nat} {sv ov : Value} {S : List Sp} {vs us : List Value} {P : List (List Nat)}
theorem StP.keep (h : StP w base sv S vs ov P us) (q : B w w') : StP w' base sv S vs ov P us :=
  ⟨h.sl, row_keep h.so q, fun j u s hu hs => row_keep (h.sr j u s hu hs) q, h.pl, row_keep h.po q, fun j u s hu hs => row_keep (h.pr j u s hu hs) q⟩
theorem snoc_at {α : Type} {l : List α} {a x : α} {j n : Nat} (hn : l.length = n) (h : (l ++ [a])[j]? = some x) : (j < n ∧ l[j]? = some x) ∨ (j = n ∧ a = x) := by
  have hj := (List.getElem?_eq_some_iff.1 h).1
  rw [List.length_append, List.length_cons, List.length_nil] at hj
  rcases Nat.lt_or_ge j l.length with hlt | hge
  · rw [List.getElem?_append_left hlt] at h
    exact .inl ⟨by omega, h⟩
  · obtain rfl : j = l.length := by omega
    rw [List.getElem?_append_right (Nat.le_refl _), Nat.sub_self] at h
    exact .inr ⟨hn, by simpa using h⟩
theorem StP.addP (h : StP w base sv S vs ov P us) {ov' u : Value} {l : List Nat} (hg : w.grownBy w' ov.ownBlock) (ho : w'.ownsRow base 69 1 ov' (P.length + 1) (us ++ [u])) (hu : w.ownsRow base 3 1 u l.length (flatI l)) :
    StP w' base sv S vs ov' (P ++ [l]) (us ++ [u]) := by
  refine ⟨h.sl, own_grownU h.so hg h.po (by decide), fun j u' s' h1 h2 => own_grownU (h.sr j u' s' h1 h2) hg h.po (by decide), by simp [h.pl], ?_, fun j u' s' h1 h2 => ?_⟩
  · rw [List.length_append]
    exact ho
  · rcases snoc_at h.pl h1 with ⟨a1, a2⟩ | ⟨a1, rfl⟩
    · rcases snoc_at rfl h2 with ⟨b1, b2⟩ | ⟨b1, rfl⟩
      · exact own_grownU (h.pr j u' s' a2 b2) hg h.po (by decide)
      · omega
    · rcases snoc_at rfl h2 with ⟨b1, b2⟩ | ⟨b1, rfl⟩
      · omega
      · exact own_grownU hu hg h.po (by decide)
end
end Go.Proofs.YtjdkhobkdlldnaaGreatDoor

namespace Go.Proofs.YtjdkhobkdlldnaaGreatDoor
open Go.RowKit
theorem IsDk.forms {w : World} {wv tv fv : Value} {d : Dk} (h : IsDk w wv tv fv d) : ∃ ao ac bo bc co cc, wv = .slice ao d.ws.length ac ∧ tv = .slice bo d.ts.length bc ∧ fv = .slice co d.fs.length cc := by
  obtain ⟨ao, ac, h1⟩ := h.ws.form
  obtain ⟨bo, bc, h2⟩ := h.ts.form
  obtain ⟨co, cc, h3⟩ := h.fs.form
  exact ⟨ao, ac, bo, bc, co, cc, h1, h2, h3⟩
theorem named_yes {ws : List Wr} {s : ByteArray} {i : Nat} (hi : i < ws.length) (h : ((ws[i]).n.toList == s.toList) = true) : namedW ws s = true := List.any_eq_true.2 ⟨_, List.getElem_mem hi, h⟩
theorem named_no {ws : List Wr} {s : ByteArray} (h : ∀ i (hi : i < ws.length), ((ws[i]).n.toList == s.toList) = false) : namedW ws s = false := by
  refine List.any_eq_false.2 fun x hx => ?_
  obtain ⟨i, hi, rfl⟩ := List.getElem_of_mem hx
  rw [h i hi]
  decide
end Go.Proofs.YtjdkhobkdlldnaaGreatDoor

namespace Go.Proofs.YtjdkhobkdlldnaaGreatDoor
open Go.RowKit
set_option linter.unusedVariables false
def wareB (w : Wr) : Prop := 1 ≤ w.x ∧ w.x ≤ 8 ∧ 1 ≤ w.y ∧ w.y ≤ 12
theorem mul_small {a b : Int} (h1 : 0 ≤ a) (h2 : a ≤ 8) (h3 : 0 ≤ b) (h4 : b ≤ 12) : 0 ≤ a * b ∧ a * b ≤ 96 := by
  refine ⟨Int.mul_nonneg h1 h3, ?_⟩
  have := Int.mul_le_mul h2 h4 h3 (by omega : (0 : Int) ≤ 8)
  omega
theorem index_cons {ws : List Wr} {i : Nat} (hi : i < ws.length) (K : Int) (n : ByteArray) (r c : Int) : indexW (ws.drop i) K n r c = (if (ws[i]).n.toList == n.toList then (if 0 ≤ r ∧ r < (ws[i]).x ∧ 0 ≤ c ∧ c < (ws[i]).y then some (K + (r * (ws[i]).y + c)) else none) else indexW (ws.drop (i + 1)) (K + (ws[i]).x * (ws[i]).y) n r c) := by
  rw [List.drop_eq_getElem_cons hi]
  rfl
end Go.Proofs.YtjdkhobkdlldnaaGreatDoor

namespace Go.Proofs.YtjdkhobkdlldnaaGreatDoor
open Go.RowKit
set_option maxHeartbeats 2000000 in
theorem r8index_any (wv tv fv : Value) (d : Dk) (n : ByteArray) (r c : Int) (w : World) (h : IsDk w wv tv fv d) (hb : ∀ x ∈ d.ws, wareB x) (h100 : d.ws.length ≤ 100) : Calls Tryz.prog 42 #[.agg #[wv, tv, fv], .agg #[.string n, .int .i64 r, .int .i64 c]] w fun e w' => e = .returned (.tuple #[.int .i64 ((indexW d.ws 0 n r c).getD 0), .bool (hasW d.ws n r c)]) ∧ Q w w' := by
  obtain ⟨ao, ac, bo, bc, co, cc, rfl, rfl, rfl⟩ := h.forms
  have hQ := ((Q.refl w).alloc #[.slice ao d.ws.length ac, .slice bo d.ts.length bc, .slice co d.fs.length cc] 26).alloc #[.string n, .int .i64 r, .int .i64 c] 39
  have hR := h.ws.keepB hQ.b
  obtain ⟨W, hW⟩ : ∃ W, (w.alloc (.cells #[.slice ao d.ws.length ac, .slice bo d.ts.length bc, .slice co d.fs.length cc] 26)).alloc (.cells #[.string n, .int .i64 r, .int .i64 c] 39) = W := ⟨_, rfl⟩
  have k0 : W.cell? ⟨w.heap.size, 0, none⟩ = some (.slice ao d.ws.length ac) := by rw [← hW]; exact ((Q.refl _).alloc _ _).keep (by rw [World.cell?_alloc_new]; rfl)
  have e1 : (w.alloc (.cells #[.slice ao d.ws.length ac, .slice bo d.ts.length bc, .slice co d.fs.length cc] 26)).heap.size = w.heap.size + 1 := by simp
  have k1 : W.cell? ⟨w.heap.size + 1, 0, none⟩ = some (.string n) := by rw [← hW, ← e1, World.cell?_alloc_new]; rfl
  have k2 : W.cell? ⟨w.heap.size + 1, 1, none⟩ = some (.int .i64 r) := by rw [← hW, ← e1, World.cell?_alloc_new]; rfl
  have k3 : W.cell? ⟨w.heap.size + 1, 2, none⟩ = some (.int .i64 c) := by rw [← hW, ← e1, World.cell?_alloc_new]; rfl
  rw [hW] at hR hQ
  replace hQ := Lib.hid hQ
  clear h e1
  unfold hasW
  obtain ⟨R, hRR⟩ : ∃ R, indexW d.ws 0 n r c = R := ⟨_, rfl⟩
  rw [hRR]
  go_enter Tryz.func42, Tryz.ntmps42
  go_wp2
  try rw [hW]
  clear hW
  generalize w.heap.size = H at *
  go_loopw [6, 7] (fun nv iv wr => ∃ (i : Nat) (K : Int), i ≤ d.ws.length ∧ iv = .int .i64 i ∧ nv = .int .i64 K ∧ 0 ≤ K ∧ K ≤ 96 * (i : Int) ∧ R = indexW (d.ws.drop i) K n r c ∧ Q W wr) (fun _ iv _ => d.ws.length + 1 - (intOf iv).toNat)
  case atStart => exact ⟨0, 0, Nat.zero_le _, rfl, rfl, by omega, by omega, hRR.symm, Q.refl _⟩
  case round =>
    obtain ⟨i, K, hi, rfl, rfl, hK0, hK1, hRi, hQi⟩ := hrel
    obtain ⟨wo, rfl⟩ : ∃ wo : World, wo = wr := ⟨_, rfl⟩
    clear hRR
    replace k0 := hQi.keep k0
    replace k1 := hQi.keep k1
    replace k2 := hQi.keep k2
    replace k3 := hQi.keep k3
    by_cases hl : i < d.ws.length
    · have hlB : decide ((i : Int) < (d.ws.length : Int)) = true := decide_eq_true (by omega)
      have hlI : (i : Int) < (d.ws.length : Int) := by omega
      have hi0 : (0 : Int) ≤ (i : Int) := by omega
      have wk1 : IntKind.i64.wrap ((i : Int) + 1) = (i : Int) + 1 := by rw [IntKind.wrap_i64]; omega
      obtain ⟨a, cap, e1, _, _, hr⟩ := (hR.keepB hQi.b).at_ hl
      obtain ⟨rfl, _, rfl⟩ : ao = some a ∧ True ∧ ac = cap := by simpa using e1
      have hbi := hb _ (List.getElem_mem hl)
      rw [index_cons hl] at hRi
      obtain ⟨F, hF⟩ : ∃ F, d.ws[i] = F := ⟨_, rfl⟩
      rw [hF] at hr hRi hbi
      obtain ⟨b1, b2, b3, b4⟩ := hbi
      obtain ⟨g1, g2, g3, g4, sv, g5, g6⟩ := hr
      obtain ⟨so, sc, rfl⟩ := secs_form g6
      obtain ⟨sn, hsn⟩ : ∃ sn, F.l.length = sn := ⟨_, rfl⟩
      rw [hsn] at g5 g6
      clear hsn
      obtain ⟨N, X, Y, Z, SL⟩ := F
      simp only at g1 g2 g3 g4 g5 hRi b1 b2 b3 b4
      have q1 := (Q.refl wo).alloc #[.string N, .int .i64 X, .int .i64 Y, .int .i64 Z, .slice so sn sc] 33
      have m0 := q1.keep k0
      have m1 := q1.keep k1
      have m2 := q1.keep k2
      have m3 := q1.keep k3
      have hs := World.block_lt_of_cell? _ _ k1
      have HQ := Lib.hid (hQi.trans q1)
      have HL := Lib.hid hl
      obtain ⟨W1, hW1⟩ : ∃ W1, wo.alloc (.cells #[.string N, .int .i64 X, .int .i64 Y, .int .i64 Z, .slice so sn sc] 33) = W1 := ⟨_, rfl⟩
      have p0 : W1.cell? ⟨wo.heap.size, 0, none⟩ = some (.string N) := by rw [← hW1, World.cell?_alloc_new]; rfl
      have p1 : W1.cell? ⟨wo.heap.size, 1, none⟩ = some (.int .i64 X) := by rw [← hW1, World.cell?_alloc_new]; rfl
      have p2 : W1.cell? ⟨wo.heap.size, 2, none⟩ = some (.int .i64 Y) := by rw [← hW1, World.cell?_alloc_new]; rfl
      rw [hW1] at m0 m1 m2 m3 HQ
      clear hR hF e1 g6 q1 hs hQi hb hi
      cases hc : (N.toList == n.toList)
      · rw [hc, if_neg (by decide)] at hRi
        have hxy := mul_small (a := X) (b := Y) (by omega) b2 (by omega) b4
        obtain ⟨P, hP⟩ : ∃ P, X * Y = P := ⟨_, rfl⟩
        rw [hP] at hxy hRi
        obtain ⟨K', hK'⟩ : ∃ K', K + P = K' := ⟨_, rfl⟩
        rw [hK'] at hRi
        have w1 : IntKind.i64.wrap (X * Y) = P := by rw [hP, IntKind.wrap_i64]; omega
        have w2 : IntKind.i64.wrap (K + P) = K' := by rw [hK', IntKind.wrap_i64]; omega
        have HS := Lib.hid (And.intro hRi (show 0 ≤ K' ∧ K' ≤ 96 * ((i : Int) + 1) by omega))
        clear hRi hxy hP hK' hK0 hK1 hl b1 b2 b3 b4
        go_wp2
        try rw [hW1]
        go_roundw
        case rel => exact ⟨i + 1, K', by have := HL.out; omega, by go_num, rfl, HS.out.2.1, by have := HS.out.2.2; omega, HS.out.1, HQ.out⟩
        case measure => have := HL.out; simp [intOf]; omega
      · rw [hc, if_pos rfl] at hRi
        by_cases r0 : 0 ≤ r
        · have r0B : decide (r < 0) = false := decide_eq_false (by omega)
          by_cases r1 : r < X
          · have r1B : decide (X ≤ r) = false := decide_eq_false (by omega)
            by_cases c0 : 0 ≤ c
            · have c0B : decide (c < 0) = false := decide_eq_false (by omega)
              by_cases c1 : c < Y
              · have c1B : decide (Y ≤ c) = false := decide_eq_false (by omega)
                rw [if_pos ⟨r0, r1, c0, c1⟩] at hRi
                have hxy := mul_small (a := r) (b := Y) r0 (by omega) (by omega) b4
                obtain ⟨P, hP⟩ : ∃ P, r * Y = P := ⟨_, rfl⟩
                rw [hP] at hxy hRi
                have w1 : IntKind.i64.wrap (r * Y) = P := by rw [hP, IntKind.wrap_i64]; omega
                obtain ⟨K1, hK1'⟩ : ∃ K1, K + P = K1 := ⟨_, rfl⟩
                obtain ⟨K2, hK2⟩ : ∃ K2, K1 + c = K2 := ⟨_, rfl⟩
                have w2 : IntKind.i64.wrap (K + P) = K1 := by rw [hK1', IntKind.wrap_i64]; omega
                have w3 : IntKind.i64.wrap (K1 + c) = K2 := by rw [hK2, IntKind.wrap_i64]; omega
                have e2 : K + (P + c) = K2 := by omega
                rw [e2] at hRi
                subst hRi
                clear hP hxy hK1' hK2 e2 hK0 hK1 b1 b2 b3 b4 r0 r1 c0 c1 hl
                go_wp2
                try rw [hW1]
                go_ret2
                exact ⟨rfl, hQ.out.trans HQ.out⟩
              · have c1B : decide (Y ≤ c) = true := decide_eq_true (by omega)
                rw [if_neg (by omega)] at hRi
                subst hRi
                clear hK0 hK1 b1 b2 b3 b4 r0 r1 c0 c1 hl
                go_wp2
                try rw [hW1]
                go_ret2
                exact ⟨rfl, hQ.out.trans HQ.out⟩
            · have c0B : decide (c < 0) = true := decide_eq_true (by omega)
              rw [if_neg (by omega)] at hRi
              subst hRi
              clear hK0 hK1 b1 b2 b3 b4 r0 r1 c0 hl
              go_wp2
              try rw [hW1]
              go_ret2
              exact ⟨rfl, hQ.out.trans HQ.out⟩
          · have r1B : decide (X ≤ r) = true := decide_eq_true (by omega)
            rw [if_neg (by omega)] at hRi
            subst hRi
            clear hK0 hK1 b1 b2 b3 b4 r0 r1 hl
            go_wp2
            try rw [hW1]
            go_ret2
            exact ⟨rfl, hQ.out.trans HQ.out⟩
        · have r0B : decide (r < 0) = true := decide_eq_true (by omega)
          rw [if_neg (by omega)] at hRi
          subst hRi
          clear hK0 hK1 b1 b2 b3 b4 r0 hl
          go_wp2
          try rw [hW1]
          go_ret2
          exact ⟨rfl, hQ.out.trans HQ.out⟩
    · have hlB : decide ((i : Int) < (d.ws.length : Int)) = false := decide_eq_false (by omega)
      rw [List.drop_eq_nil_of_le (by omega)] at hRi
      have hRn : R = none := hRi
      subst hRn
      have HQ := Lib.hid (hQ.out.trans hQi)
      clear hRi hR hQi hi hK0 hK1
      go_wp2
      go_ret2
      exact ⟨rfl, HQ.out⟩
end Go.Proofs.YtjdkhobkdlldnaaGreatDoor

namespace Go.Proofs.YtjdkhobkdlldnaaGreatDoor
open Go.RowKit
theorem r8lower_any (n : Nat) (w : World) : Calls Tryz.prog 72 #[.int .u8 (n : Int)] w fun e w' => e = .returned (.bool (lowN n)) ∧ w = w' := by
  unfold lowN
  by_cases c : 97 ≤ n
  · have cB : decide ((97 : Int) ≤ (n : Int)) = true := decide_eq_true (by omega)
    have e2 : decide (n ≤ 122) = decide ((n : Int) ≤ 122) := decide_eq_decide.2 (by omega)
    rw [decide_eq_true c, e2, Bool.true_and]
    go_enter Tryz.func72, Tryz.ntmps72
    go_wp2
    go_ret
    exact ⟨rfl, rfl⟩
  · have cB : decide ((97 : Int) ≤ (n : Int)) = false := decide_eq_false (by omega)
    rw [decide_eq_false c, Bool.false_and]
    go_enter Tryz.func72, Tryz.ntmps72
    go_wp2
    go_ret
    exact ⟨rfl, rfl⟩
theorem r8digit_any (n : Nat) (w : World) : Calls Tryz.prog 73 #[.int .u8 (n : Int)] w fun e w' => e = .returned (.bool (digN n)) ∧ w = w' := by
  unfold digN
  by_cases c : 48 ≤ n
  · have cB : decide ((48 : Int) ≤ (n : Int)) = true := decide_eq_true (by omega)
    have e2 : decide (n ≤ 57) = decide ((n : Int) ≤ 57) := decide_eq_decide.2 (by omega)
    rw [decide_eq_true c, e2, Bool.true_and]
    go_enter Tryz.func73, Tryz.ntmps73
    go_wp2
    go_ret
    exact ⟨rfl, rfl⟩
  · have cB : decide ((48 : Int) ≤ (n : Int)) = false := decide_eq_false (by omega)
    rw [decide_eq_false c, Bool.false_and]
    go_enter Tryz.func73, Tryz.ntmps73
    go_wp2
    go_ret
    exact ⟨rfl, rfl⟩
theorem r8name_any (s : ByteArray) (w : World) : Calls Tryz.prog 36 #[.string s] w fun e w' => e = .returned (.bool (nameS s)) ∧ w = w' := by
  by_cases h1 : s.size < 1
  · have h1B : decide ((s.size : Int) < 1) = true := decide_eq_true (by omega)
    rw [nameS_size (.inl h1)]
    clear h1
    go_enter Tryz.func36, Tryz.ntmps36
    go_wp2
    go_ret
    exact ⟨rfl, rfl⟩
  have h1B : decide ((s.size : Int) < 1) = false := decide_eq_false (by omega)
  by_cases h2 : 16 < s.size
  · have h2B : decide ((16 : Int) < (s.size : Int)) = true := decide_eq_true (by omega)
    rw [nameS_size (.inr h2)]
    clear h1 h2
    go_enter Tryz.func36, Tryz.ntmps36
    go_wp2
    go_ret
    exact ⟨rfl, rfl⟩
  have h2B : decide ((16 : Int) < (s.size : Int)) = false := decide_eq_false (by omega)
  have hz : (0 : Int) < (s.size : Int) := by omega
  have hg0 : ∀ h : 0 < s.size, (s[0]'h).toNat = byteAt s 0 := fun h => byteAt_get s 0 h
  have c0 := fun w => r8lower_any (byteAt s 0) w
  cases h3 : lowN (byteAt s 0)
  · rw [nameS_first h3]
    rw [h3] at c0
    generalize byteAt s 0 = b0 at *
    clear h3
    go_enter Tryz.func36, Tryz.ntmps36
    go_wp2_with fail
    refine (c0 _).mono ?_
    rintro e w1 ⟨rfl, rfl⟩
    go_wp2
    go_ret
    exact ⟨rfl, rfl⟩
  rw [h3] at c0
  have hgood := Lib.hid (fun h => nameS_good (s := s) (by omega) (by omega) h3 h)
  have hbad := @nameS_bad s
  generalize byteAt s 0 = b0 at *
  generalize nameS s = R at *
  clear h3 h1
  go_enter Tryz.func36, Tryz.ntmps36
  go_wp2_with fail
  refine (c0 _).mono ?_
  rintro e w1 ⟨rfl, rfl⟩
  clear c0 hg0
  go_wp2
  go_loopw [3] (fun i wr => ∃ k : Nat, k ≤ s.size ∧ i = .int .i64 k ∧ (∀ j, j < k → (lowN (byteAt s j) || digN (byteAt s j)) = true) ∧ w = wr) (fun i _ => s.size + 1 - (intOf i).toNat)
  case atStart => exact ⟨0, Nat.zero_le _, rfl, fun j hj => by omega, rfl⟩
  case round =>
    obtain ⟨k, hk, rfl, hall, rfl⟩ := hrel
    by_cases hl : k < s.size
    · have hlB : decide ((k : Int) < (s.size : Int)) = true := decide_eq_true (by omega)
      have hlI : (k : Int) < (s.size : Int) := by omega
      have hkB : (0 : Int) ≤ (k : Int) := by omega
      have wk1 : IntKind.i64.wrap ((k : Int) + 1) = (k : Int) + 1 := by rw [IntKind.wrap_i64]; omega
      have hg : ∀ h : k < s.size, (s[k]'h).toNat = byteAt s k := fun h => byteAt_get s k h
      have c1 := fun w => r8lower_any (byteAt s k) w
      have c2 := fun w => r8digit_any (byteAt s k) w
      have hb := hbad hl
      have hnext : (lowN (byteAt s k) || digN (byteAt s k)) = true → ∀ j, j < k + 1 → (lowN (byteAt s j) || digN (byteAt s j)) = true := fun h j hj => by
        by_cases c : j = k
        · subst c; exact h
        · exact hall j (by omega)
      clear hall
      generalize byteAt s k = b at *
      cases h4 : lowN b
      · cases h5 : digN b
        · rw [h4, h5] at hb
          obtain rfl := hb rfl
          rw [h4] at c1
          rw [h5] at c2
          clear hnext h4 h5
          go_wp2_with fail
          refine (c1 _).mono ?_
          rintro e w1 ⟨rfl, rfl⟩
          go_wp2_with fail
          refine (c2 _).mono ?_
          rintro e w1 ⟨rfl, rfl⟩
          go_wp2
          go_ret
          exact ⟨rfl, rfl⟩
        · have HA := Lib.hid (hnext (by rw [h4, h5]; rfl))
          rw [h4] at c1
          rw [h5] at c2
          clear hnext h4 h5 hb
          go_wp2_with fail
          refine (c1 _).mono ?_
          rintro e w1 ⟨rfl, rfl⟩
          go_wp2_with fail
          refine (c2 _).mono ?_
          rintro e w1 ⟨rfl, rfl⟩
          go_wp2
          go_roundw
          case rel => exact ⟨k + 1, by omega, by go_num, HA.out, trivial⟩
          case measure => simp [intOf]; omega
      · have HA := Lib.hid (hnext (by rw [h4]; rfl))
        rw [h4] at c1
        clear hnext h4 hb c2
        go_wp2_with fail
        refine (c1 _).mono ?_
        rintro e w1 ⟨rfl, rfl⟩
        go_wp2
        go_roundw
        case rel => exact ⟨k + 1, by omega, by go_num, HA.out, trivial⟩
        case measure => simp [intOf]; omega
    · have hlB : decide ((k : Int) < (s.size : Int)) = false := decide_eq_false (by omega)
      have HR := Lib.hid (hgood.out (fun i hi => hall i (by omega)))
      clear hall hgood hbad
      go_wp2
      go_ret
      exact ⟨by rw [HR.out]; rfl, rfl⟩
end Go.Proofs.YtjdkhobkdlldnaaGreatDoor
