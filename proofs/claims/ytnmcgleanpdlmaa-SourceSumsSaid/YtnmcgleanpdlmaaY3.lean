/-
  Bytes, words, lines of words in memory. No program is named here; Decks as texts: which may be, how they are said, how lines of words are read. No program is named here; Fills, decks in memory. No program is named here; Steps of protocols: which may be, how they are said, how they lie in memory. No program is named here; A deck's three slices; whose name a name is. No program is named here; Decks whose wares are in bounds. No program is named here; Contract of the document's number of a well; The code's within; Contracts of the document's own names; Contract of the code's kind of a byte; The code's wells: within, written, size, has.
-/
import Derived.Test.YtnmcgleanpdlmaaChecked
import Derived.Lib.Hide
import Derived.KernelRfl
import Derived.Laws.OwnMore
import Derived.Laws.BytesArg
import Derived.OwnWalk
import Derived.Test.YtnmcgleanpdlmaaY1
import Derived.Test.YtnmcgleanpdlmaaY2
namespace Go.Proofs.Ytnmcgleanpdlmaa
open Go.RowKit
/-- Bytes lie in block b, from place o on. -/
def BAt (w : World) (b o : Nat) (bs : List UInt8) : Prop := ∀ i c, bs[i]? = some c → w.cell? ⟨b, o + i, none⟩ = some (.int .u8 ((c.toNat : Nat) : Int))
theorem BAt.keep {w w' : World} {b o : Nat} {bs : List UInt8} (h : BAt w b o bs) (q : B w w') : BAt w' b o bs := fun i c hc => q.keep (h i c hc)
/-- The header of a slice of bytes. -/
structure IsB (w : World) (ao : Option Addr) (cap b o : Nat) (bs : List UInt8) : Prop where
  at_ : BAt w b o bs
  ao : 0 < bs.length → ao = some ⟨b, o, none⟩
  le : bs.length ≤ cap
  max : cap ≤ maxLen
theorem IsB.keep {w w' : World} {ao : Option Addr} {cap b o : Nat} {bs : List UInt8} (h : IsB w ao cap b o bs) (q : B w w') : IsB w' ao cap b o bs := ⟨h.at_.keep q, h.ao, h.le, h.max⟩
theorem BAt.drop {w : World} {b o : Nat} {bs : List UInt8} (h : BAt w b o bs) (k : Nat) : BAt w b (o + k) (bs.drop k) := fun i c hc => by
  rw [List.getElem?_drop] at hc
  rw [Nat.add_assoc]
  exact h _ _ hc
theorem BAt.take {w : World} {b o : Nat} {bs : List UInt8} (h : BAt w b o bs) (k : Nat) : BAt w b o (bs.take k) := fun i c hc => by
  rw [List.getElem?_take] at hc
  split at hc
  · exact h _ _ hc
  · cases hc
/-- A string of bytes. -/
def strB (l : List UInt8) : ByteArray := ⟨l.toArray⟩
/-- Words in memory. -/
def IsWords (w : World) (v : Value) (ws : List Wd) : Prop :=
  (v = .slice none 0 0 ∧ ws = []) ∨
  ∃ g cap, v = .slice (some ⟨g, 0, none⟩) ws.length cap ∧ ws.length ≤ cap ∧ cap ≤ maxLen ∧ ∀ i x, ws[i]? = some x → w.cell? ⟨g, i * 2, none⟩ = some (.int .i64 ((x.1 : Nat) : Int)) ∧ w.cell? ⟨g, i * 2 + 1, none⟩ = some (.string (strB x.2))
theorem IsWords.form {w : World} {v : Value} {ws : List Wd} (h : IsWords w v ws) : ∃ ao cap, v = .slice ao ws.length cap := by
  rcases h with ⟨rfl, rfl⟩ | ⟨g, cap, rfl, _⟩ <;> exact ⟨_, _, rfl⟩
/-- Words stay where their block stays. -/
theorem IsWords.block {w w' : World} {v : Value} {ws : List Wd} (h : IsWords w v ws) (hb : ∀ b, v.ownBlock = some b → b < w.heap.size → w'.heap[b]? = w.heap[b]?) : IsWords w' v ws := by
  rcases h with h | ⟨g, cap, rfl, h2, h3, h4⟩
  · exact .inl h
  · refine .inr ⟨g, cap, rfl, h2, h3, fun i x hx => ?_⟩
    obtain ⟨k1, k2⟩ := h4 i x hx
    have hlt := World.block_lt_of_cell? w _ k1
    have e := hb g rfl hlt
    exact ⟨(World.cell?_of_block (a := ⟨g, i * 2, none⟩) e).trans k1, (World.cell?_of_block (a := ⟨g, i * 2 + 1, none⟩) e).trans k2⟩
theorem IsWords.keep {w w' : World} {v : Value} {ws : List Wd} (h : IsWords w v ws) (q : B w w') : IsWords w' v ws := h.block fun b _ hlt => q.below.block b hlt
/-- Lines of words, in a row that the call owns. -/
structure LinesO (w : World) (base : Nat) (e : TypeId) (v : Value) (LL : List (List Wd)) (vs : List Value) : Prop where
  own : w.ownsRow base e 1 v LL.length vs
  row : ∀ (j : Nat) u L, vs[j]? = some u → LL[j]? = some L → IsWords w u L ∧ ∃ b, u.ownBlock = some b ∧ v.ownBlock ≠ some b ∧ b < w.heap.size ∧ base ≤ b
theorem LinesO.nil (w : World) (base : Nat) (e : TypeId) : LinesO w base e (.slice none 0 0) [] [] := ⟨World.ownsRow_nil _ _ _ _, fun j u L h => by simp at h⟩
theorem lines_keep {w w' : World} {base : Nat} {e : TypeId} {v : Value} {LL : List (List Wd)} {vs : List Value} (h : LinesO w base e v LL vs) {row : Option Nat} (q : w.grownBy w' row)
    (hv : ∀ b, row = some b → v.ownBlock ≠ some b) (hs : ∀ b, row = some b → ∀ u ∈ vs, u.ownBlock ≠ some b) : LinesO w' base e v LL vs := by
  refine ⟨h.own.kept (row := row) q ?_, fun j u L hu hL => ?_⟩
  · cases hb : v.ownBlock with
    | none => exact .inl rfl
    | some b => exact .inr fun e => hv b e.symm hb
  · obtain ⟨h1, b, h2, h3, h4, h5⟩ := h.row j u L hu hL
    exact ⟨h1.block fun b' hb' hlt => q.block b' hlt (fun e => hs b' e.symm u (List.mem_of_getElem? hu) hb'), b, h2, h3, Nat.lt_of_lt_of_le h4 q.size, h5⟩
theorem B.none {w w' : World} (q : B w w') : w.grownBy w' none := ⟨q.below.os, q.below.tape, q.below.output, q.below.size, fun k hk _ => q.below.block k hk⟩
theorem row_keep {w w' : World} {base : Nat} {e : TypeId} {size n : Nat} {v : Value} {xs : List Value} (h : w.ownsRow base e size v n xs) (q : B w w') : w'.ownsRow base e size v n xs :=
  h.kept (row := none) q.none (by cases v.ownBlock <;> simp)
theorem addz (b j : Nat) : (⟨b, 0, none⟩ : Addr).add j = ⟨b, j, none⟩ := by unfold Addr.add; split <;> simp_all
/-- Cells of a new block. -/
theorem newest {w : World} {cs : Array Value} {t : TypeId} {H : Nat} (hH : w.heap.size = H) : ∀ j u, cs.toList[j]? = some u → (w.alloc (.cells cs t)).cell? ((⟨H, 0, none⟩ : Addr).add j) = some u := by
  intro j u h
  rw [addz]
  subst hH
  rw [World.cell?_alloc_new]
  simpa using h
theorem info_of {P : Program} {t : TypeId} {z : Value} {s b : Nat} (h : (P.info? t).map (fun i => (i.zero, i.size, i.bytes)) = some (some z, s, b)) : ∃ i, P.info? t = some i ∧ i.zero = some z ∧ i.size = s ∧ i.bytes = b := by
  cases hi : P.info? t with
  | none => rw [hi] at h; cases h
  | some i => rw [hi] at h; simp at h; exact ⟨i, rfl, h.1, h.2.1, h.2.2⟩
theorem LinesO.keep {w w' : World} {base : Nat} {e : TypeId} {v : Value} {LL : List (List Wd)} {vs : List Value} (h : LinesO w base e v LL vs) (q : B w w') : LinesO w' base e v LL vs :=
  lines_keep h q.none (fun b hb => by cases hb) (fun b hb => by cases hb)
theorem LinesO.len {w : World} {base : Nat} {e : TypeId} {v : Value} {LL : List (List Wd)} {vs : List Value} (h : LinesO w base e v LL vs) : vs.length = LL.length := by
  have := h.own.1
  omega
/-- Lines of words in memory. -/
def IsLines (w : World) (v : Value) (LL : List (List Wd)) : Prop :=
  (v = .slice none 0 0 ∧ LL = []) ∨
  ∃ g cap, v = .slice (some ⟨g, 0, none⟩) LL.length cap ∧ LL.length ≤ cap ∧ cap ≤ maxLen ∧ ∀ i L, LL[i]? = some L → ∃ u, w.cell? ⟨g, i, none⟩ = some u ∧ IsWords w u L
theorem IsLines.keep {w w' : World} {v : Value} {LL : List (List Wd)} (h : IsLines w v LL) (q : B w w') : IsLines w' v LL := by
  rcases h with h | ⟨g, cap, h1, h2, h3, h4⟩
  · exact .inl h
  · exact .inr ⟨g, cap, h1, h2, h3, fun i L hL => by obtain ⟨u, k1, k2⟩ := h4 i L hL; exact ⟨u, q.keep k1, k2.keep q⟩⟩
theorem IsLines.form {w : World} {v : Value} {LL : List (List Wd)} (h : IsLines w v LL) : ∃ ao cap, v = .slice ao LL.length cap := by
  rcases h with ⟨rfl, rfl⟩ | ⟨g, cap, rfl, _⟩ <;> exact ⟨_, _, rfl⟩
theorem LinesO.is {w : World} {base : Nat} {e : TypeId} {v : Value} {LL : List (List Wd)} {vs : List Value} (h : LinesO w base e v LL vs) : IsLines w v LL := by
  have hown := h.own
  rcases hown.2 with ⟨h0, h1⟩ | ⟨g, cap, cur, rfl, _, _, h1, h2, _⟩
  · exact .inl ⟨h0, List.length_eq_zero_iff.1 (by omega)⟩
  · refine .inr ⟨g, cap, rfl, h1, h2, fun i L hL => ?_⟩
    have hi : i < LL.length := (List.getElem?_eq_some_iff.1 hL).1
    have hlen := h.len
    have hu : vs[i]? = some vs[i] := List.getElem?_eq_getElem (by omega)
    exact ⟨_, (hown.cellAt i (by omega)).trans hu, (h.row i _ L hu hL).1⟩
end Go.Proofs.Ytnmcgleanpdlmaa

namespace Go.Proofs.Ytnmcgleanpdlmaa
open Go.RowKit
/-- A ware, a tip: a name, three numbers, a shape. -/
abbrev Wr := Rec
/-- A fill: a well's ware, row, column; how much. -/
structure Fl where
  n : ByteArray
  r : Int
  c : Int
  v : Int
structure Dk where
  ws : List Wr
  ts : List Wr
  fs : List Fl
def dk0 : Dk := ⟨[], [], []⟩
/-- Is a name one of theirs? -/
def namedW (ws : List Wr) (n : ByteArray) : Bool := ws.any fun w => w.n.toList == n.toList
def filledW (fs : List Fl) (n : ByteArray) (r c : Int) : Bool := fs.any fun f => (f.n.toList == n.toList) && decide (f.r = r) && decide (f.c = c)
/-- The number of a well; none if it isn't there. -/
def indexW : List Wr → Int → ByteArray → Int → Int → Option Int
  | [], _, _, _, _ => none
  | w :: ws, k, n, r, c => if w.n.toList == n.toList then (if 0 ≤ r ∧ r < w.x ∧ 0 ≤ c ∧ c < w.y then some (k + (r * w.y + c)) else none) else indexW ws (k + w.x * w.y) n r c
def hasW (ws : List Wr) (n : ByteArray) (r c : Int) : Bool := (indexW ws 0 n r c).isSome
/-- A section more: of the last ware, of the last tip. -/
def moreR (w : Wr) (s : Sec) : Wr := { w with l := w.l ++ [s] }
def moreW : List Wr → Sec → List Wr
  | [], _ => []
  | [w], s => [moreR w s]
  | w :: ws, s => w :: moreW ws s
def Dk.add (d : Dk) (o : Nat) (s : Sec) : Dk := if o = 1 then { d with ws := moreW d.ws s } else if o = 2 then { d with ts := moreW d.ts s } else d
/-- Which decks may be. -/
def wareOk (w : Wr) : Bool := nameS w.n && inB w.x 1 8 && inB w.y 1 12 && inB w.z 0 1000000 && rightS w.l
def tipOk (t : Wr) : Bool := nameS t.n && rightS t.l && inB t.x 1 20000000 && inB t.y 1 60000 && inB t.z 0 10000
def apartW (ok : Wr → Bool) (ws : List Wr) : Bool := (List.range ws.length).all fun i => match ws[i]? with
  | some w => ok w && !namedW (ws.take i) w.n
  | none => true
def fillsOk (ws : List Wr) (fs : List Fl) : Bool := (List.range fs.length).all fun i => match fs[i]? with
  | some f => hasW ws f.n f.r f.c && inB f.v 0 20000000 && !filledW (fs.take i) f.n f.r f.c
  | none => true
def rightD (d : Dk) : Bool := decide (d.ws.length ≤ 8) && decide (d.ts.length ≤ 4) && apartW wareOk d.ws && apartW tipOk d.ts && fillsOk d.ws d.fs
/-- A number's digits. -/
def decI (x : Int) : List UInt8 := Lib.decDigits x.toNat
/-- A well's text. -/
def wellT (n : ByteArray) (r c : Int) : List UInt8 := if nameS n = true ∧ 0 ≤ r ∧ r < 8 ∧ 0 ≤ c ∧ c < 12 then n.data.toList ++ [46, UInt8.ofNat (65 + r.toNat)] ++ decI (c + 1) else []
end Go.Proofs.Ytnmcgleanpdlmaa

namespace Go.Proofs.Ytnmcgleanpdlmaa
open Go.RowKit
structure FlAt (w : World) (p : Addr) (f : Fl) : Prop where
  n : w.cell? p = some (.string f.n)
  r : w.cell? ⟨p.block, p.off + 1, none⟩ = some (.int .i64 f.r)
  c : w.cell? ⟨p.block, p.off + 2, none⟩ = some (.int .i64 f.c)
  v : w.cell? ⟨p.block, p.off + 3, none⟩ = some (.int .i64 f.v)
theorem FlAt.keepB {w w' : World} {p : Addr} {f : Fl} (h : FlAt w p f) (q : B w w') : FlAt w' p f := ⟨q.keep h.n, q.keep h.r, q.keep h.c, q.keep h.v⟩
def IsFls (w : World) (v : Value) (L : List Fl) : Prop :=
  (v = .slice none 0 0 ∧ L = []) ∨
  ∃ (a : Addr) (cap : Nat), v = .slice (some a) L.length cap ∧ L.length ≤ cap ∧ cap ≤ maxLen ∧ ∀ i f, L[i]? = some f → FlAt w (a.add (i * 4)) f
theorem IsFls.keepB {w w' : World} {v : Value} {L : List Fl} (h : IsFls w v L) (q : B w w') : IsFls w' v L := by
  rcases h with h | ⟨a, cap, h1, h2, h3, h4⟩
  · exact .inl h
  · exact .inr ⟨a, cap, h1, h2, h3, fun i f hf => (h4 i f hf).keepB q⟩
theorem IsFls.form {w : World} {v : Value} {L : List Fl} (h : IsFls w v L) : ∃ ao cap, v = .slice ao L.length cap := by
  rcases h with ⟨rfl, rfl⟩ | ⟨a, cap, rfl, _⟩
  · exact ⟨_, _, rfl⟩
  · exact ⟨_, _, rfl⟩
theorem IsFls.at_ {w : World} {v : Value} {L : List Fl} (h : IsFls w v L) {i : Nat} (hi : i < L.length) : ∃ (a : Addr) (cap : Nat), v = .slice (some a) L.length cap ∧ L.length ≤ cap ∧ cap ≤ maxLen ∧ FlAt w (a.add (i * 4)) L[i] := by
  rcases h with ⟨_, rfl⟩ | ⟨a, cap, h1, h2, h3, h4⟩
  · simp at hi
  · exact ⟨a, cap, h1, h2, h3, h4 i _ (List.getElem?_eq_getElem hi)⟩
/-- A deck in memory: its three slices. -/
structure IsDk (w : World) (wv tv fv : Value) (d : Dk) : Prop where
  ws : IsRecs w wv d.ws
  ts : IsRecs w tv d.ts
  fs : IsFls w fv d.fs
theorem IsDk.keepB {w w' : World} {wv tv fv : Value} {d : Dk} (h : IsDk w wv tv fv d) (q : B w w') : IsDk w' wv tv fv d := ⟨h.ws.keepB q, h.ts.keepB q, h.fs.keepB q⟩
theorem len_max {n : Nat} {cap : Nat} (h : n ≤ cap) (h2 : cap ≤ maxLen) : n ≤ 9223372036854775807 := by unfold maxLen at h2; omega
theorem IsRecs.len {w : World} {v : Value} {L : List Rec} (h : IsRecs w v L) : L.length ≤ 9223372036854775807 := by
  rcases h with ⟨_, rfl⟩ | ⟨a, cap, _, h2, h3, _⟩
  · simp
  · exact len_max h2 h3
theorem IsFls.len {w : World} {v : Value} {L : List Fl} (h : IsFls w v L) : L.length ≤ 9223372036854775807 := by
  rcases h with ⟨_, rfl⟩ | ⟨a, cap, _, h2, h3, _⟩
  · simp
  · exact len_max h2 h3
theorem secs_form {w : World} {v : Value} {l : List Sec} (h : IsSecs w v l) : ∃ ao cap, v = .slice ao l.length cap := by
  rcases h with ⟨rfl, rfl⟩ | ⟨a, cap, rfl, _⟩
  · exact ⟨_, _, rfl⟩
  · exact ⟨_, _, rfl⟩
end Go.Proofs.Ytnmcgleanpdlmaa

namespace Go.Proofs.Ytnmcgleanpdlmaa
open Go.RowKit
set_option linter.unusedVariables false
/-- A well: a ware's name, row, column. -/
structure Wp where
  n : ByteArray
  r : Int
  c : Int
/-- A step: its kind, a name, wells, a volume, a number. -/
structure Sp where
  k : Int
  n : ByteArray
  w : List Wp
  v : Int
  m : Int
def Wp.t (p : Wp) : List UInt8 := wellT p.n p.r p.c
def wellsOk (l : List Wp) : Bool := l.all fun p => !p.t.isEmpty
def stepK (s : Sp) : Bool :=
  if s.k = 0 then nameS s.n && decide (s.w.length = 0) && decide (s.v = 0) && decide (s.m = 0)
  else if s.k = 1 then (s.n.toList == []) && decide (s.w.length = 0) && decide (s.v = 0) && (decide (s.m = 0) || decide (s.m = 1))
  else if s.k = 5 then (s.n.toList == []) && decide (s.w.length = 1) && inB s.v 1 20000000 && inB s.m 1 20
  else if s.k = 2 ∨ s.k = 3 ∨ s.k = 4 ∨ s.k = 6 then (s.n.toList == []) && decide (s.m = 0) && inB s.v 1 20000000 && decide (2 ≤ s.w.length) && decide (s.w.length ≤ 96) && (decide (s.k ≠ 2) || decide (s.w.length = 2))
  else false
/-- Which steps may be. -/
def stepOk (s : Sp) : Bool := wellsOk s.w && stepK s
def stepsOk (l : List Sp) : Bool := decide (l.length ≤ 200) && l.all stepOk
structure WpAt (w : World) (p : Addr) (f : Wp) : Prop where
  n : w.cell? p = some (.string f.n)
  r : w.cell? ⟨p.block, p.off + 1, none⟩ = some (.int .i64 f.r)
  c : w.cell? ⟨p.block, p.off + 2, none⟩ = some (.int .i64 f.c)
theorem WpAt.keepB {w w' : World} {p : Addr} {f : Wp} (h : WpAt w p f) (q : B w w') : WpAt w' p f := ⟨q.keep h.n, q.keep h.r, q.keep h.c⟩
/-- Wells in memory. -/
def IsWps (w : World) (v : Value) (L : List Wp) : Prop :=
  (v = .slice none 0 0 ∧ L = []) ∨
  ∃ (a : Addr) (cap : Nat), v = .slice (some a) L.length cap ∧ L.length ≤ cap ∧ cap ≤ maxLen ∧ ∀ i f, L[i]? = some f → WpAt w (a.add (i * 3)) f
theorem IsWps.keepB {w w' : World} {v : Value} {L : List Wp} (h : IsWps w v L) (q : B w w') : IsWps w' v L := by
  rcases h with h | ⟨a, cap, h1, h2, h3, h4⟩
  · exact .inl h
  · exact .inr ⟨a, cap, h1, h2, h3, fun i f hf => (h4 i f hf).keepB q⟩
theorem IsWps.form {w : World} {v : Value} {L : List Wp} (h : IsWps w v L) : ∃ ao cap, v = .slice ao L.length cap := by
  rcases h with ⟨rfl, rfl⟩ | ⟨a, cap, rfl, _⟩
  · exact ⟨_, _, rfl⟩
  · exact ⟨_, _, rfl⟩
theorem IsWps.at_ {w : World} {v : Value} {L : List Wp} (h : IsWps w v L) {i : Nat} (hi : i < L.length) : ∃ (a : Addr) (cap : Nat), v = .slice (some a) L.length cap ∧ L.length ≤ cap ∧ cap ≤ maxLen ∧ WpAt w (a.add (i * 3)) L[i] := by
  rcases h with ⟨_, rfl⟩ | ⟨a, cap, h1, h2, h3, h4⟩
  · simp at hi
  · exact ⟨a, cap, h1, h2, h3, h4 i _ (List.getElem?_eq_getElem hi)⟩
theorem IsWps.len {w : World} {v : Value} {L : List Wp} (h : IsWps w v L) : L.length ≤ 9223372036854775807 := by
  rcases h with ⟨_, rfl⟩ | ⟨a, cap, _, h2, h3, _⟩
  · simp
  · exact len_max h2 h3
/-- A step in memory. -/
structure SpAt (w : World) (p : Addr) (s : Sp) : Prop where
  k : w.cell? p = some (.int .i64 s.k)
  n : w.cell? ⟨p.block, p.off + 1, none⟩ = some (.string s.n)
  ws : ∃ v, w.cell? ⟨p.block, p.off + 2, none⟩ = some v ∧ IsWps w v s.w
  v : w.cell? ⟨p.block, p.off + 3, none⟩ = some (.int .i64 s.v)
  m : w.cell? ⟨p.block, p.off + 4, none⟩ = some (.int .i64 s.m)
theorem SpAt.keepB {w w' : World} {p : Addr} {s : Sp} (h : SpAt w p s) (q : B w w') : SpAt w' p s :=
  ⟨q.keep h.k, q.keep h.n, let ⟨v, h1, h2⟩ := h.ws; ⟨v, q.keep h1, h2.keepB q⟩, q.keep h.v, q.keep h.m⟩
def IsSps (w : World) (v : Value) (L : List Sp) : Prop :=
  (v = .slice none 0 0 ∧ L = []) ∨
  ∃ (a : Addr) (cap : Nat), v = .slice (some a) L.length cap ∧ L.length ≤ cap ∧ cap ≤ maxLen ∧ ∀ i f, L[i]? = some f → SpAt w (a.add (i * 5)) f
theorem IsSps.keepB {w w' : World} {v : Value} {L : List Sp} (h : IsSps w v L) (q : B w w') : IsSps w' v L := by
  rcases h with h | ⟨a, cap, h1, h2, h3, h4⟩
  · exact .inl h
  · exact .inr ⟨a, cap, h1, h2, h3, fun i f hf => (h4 i f hf).keepB q⟩
theorem IsSps.form {w : World} {v : Value} {L : List Sp} (h : IsSps w v L) : ∃ ao cap, v = .slice ao L.length cap := by
  rcases h with ⟨rfl, rfl⟩ | ⟨a, cap, rfl, _⟩
  · exact ⟨_, _, rfl⟩
  · exact ⟨_, _, rfl⟩
theorem IsSps.at_ {w : World} {v : Value} {L : List Sp} (h : IsSps w v L) {i : Nat} (hi : i < L.length) : ∃ (a : Addr) (cap : Nat), v = .slice (some a) L.length cap ∧ L.length ≤ cap ∧ cap ≤ maxLen ∧ SpAt w (a.add (i * 5)) L[i] := by
  rcases h with ⟨_, rfl⟩ | ⟨a, cap, h1, h2, h3, h4⟩
  · simp at hi
  · exact ⟨a, cap, h1, h2, h3, h4 i _ (List.getElem?_eq_getElem hi)⟩
theorem IsSps.len {w : World} {v : Value} {L : List Sp} (h : IsSps w v L) : L.length ≤ 9223372036854775807 := by
  rcases h with ⟨_, rfl⟩ | ⟨a, cap, _, h2, h3, _⟩
  · simp
  · exact len_max h2 h3
end Go.Proofs.Ytnmcgleanpdlmaa

namespace Go.Proofs.Ytnmcgleanpdlmaa
open Go.RowKit
theorem IsDk.forms {w : World} {wv tv fv : Value} {d : Dk} (h : IsDk w wv tv fv d) : ∃ ao ac bo bc co cc, wv = .slice ao d.ws.length ac ∧ tv = .slice bo d.ts.length bc ∧ fv = .slice co d.fs.length cc := by
  obtain ⟨ao, ac, h1⟩ := h.ws.form
  obtain ⟨bo, bc, h2⟩ := h.ts.form
  obtain ⟨co, cc, h3⟩ := h.fs.form
  exact ⟨ao, ac, bo, bc, co, cc, h1, h2, h3⟩
theorem named_yes {ws : List Wr} {s : ByteArray} {i : Nat} (hi : i < ws.length) (h : ((ws[i]).n.toList == s.toList) = true) : namedW ws s = true := List.any_eq_true.2 ⟨_, List.getElem_mem hi, h⟩
theorem named_no {ws : List Wr} {s : ByteArray} (h : ∀ i (hi : i < ws.length), ((ws[i]).n.toList == s.toList) = false) : namedW ws s = false := by
  refine List.any_eq_false.2 fun x hx => ?_
  obtain ⟨i, hi, rfl⟩ := List.getElem_of_mem hx
  rw [h i hi]
  decide
end Go.Proofs.Ytnmcgleanpdlmaa

namespace Go.Proofs.Ytnmcgleanpdlmaa
open Go.RowKit
set_option linter.unusedVariables false
def wareB (w : Wr) : Prop := 1 ≤ w.x ∧ w.x ≤ 8 ∧ 1 ≤ w.y ∧ w.y ≤ 12
theorem mul_small {a b : Int} (h1 : 0 ≤ a) (h2 : a ≤ 8) (h3 : 0 ≤ b) (h4 : b ≤ 12) : 0 ≤ a * b ∧ a * b ≤ 96 := by
  refine ⟨Int.mul_nonneg h1 h3, ?_⟩
  have := Int.mul_le_mul h2 h4 h3 (by omega : (0 : Int) ≤ 8)
  omega
theorem index_cons {ws : List Wr} {i : Nat} (hi : i < ws.length) (K : Int) (n : ByteArray) (r c : Int) : indexW (ws.drop i) K n r c = (if (ws[i]).n.toList == n.toList then (if 0 ≤ r ∧ r < (ws[i]).x ∧ 0 ≤ c ∧ c < (ws[i]).y then some (K + (r * (ws[i]).y + c)) else none) else indexW (ws.drop (i + 1)) (K + (ws[i]).x * (ws[i]).y) n r c) := by
  rw [List.drop_eq_getElem_cons hi]
  rfl
end Go.Proofs.Ytnmcgleanpdlmaa

namespace Go.Proofs.Ytnmcgleanpdlmaa
open Go.RowKit
set_option maxHeartbeats 2000000 in
theorem r8index_any (wv tv fv : Value) (d : Dk) (n : ByteArray) (r c : Int) (w : World) (h : IsDk w wv tv fv d) (hb : ∀ x ∈ d.ws, wareB x) (h100 : d.ws.length ≤ 100) : Calls Try.prog 19 #[.agg #[wv, tv, fv], .agg #[.string n, .int .i64 r, .int .i64 c]] w fun e w' => e = .returned (.tuple #[.int .i64 ((indexW d.ws 0 n r c).getD 0), .bool (hasW d.ws n r c)]) ∧ Q w w' := by
  obtain ⟨ao, ac, bo, bc, co, cc, rfl, rfl, rfl⟩ := h.forms
  have hQ := ((Q.refl w).alloc #[.slice ao d.ws.length ac, .slice bo d.ts.length bc, .slice co d.fs.length cc] 39).alloc #[.string n, .int .i64 r, .int .i64 c] 50
  have hR := h.ws.keepB hQ.b
  obtain ⟨W, hW⟩ : ∃ W, (w.alloc (.cells #[.slice ao d.ws.length ac, .slice bo d.ts.length bc, .slice co d.fs.length cc] 39)).alloc (.cells #[.string n, .int .i64 r, .int .i64 c] 50) = W := ⟨_, rfl⟩
  have k0 : W.cell? ⟨w.heap.size, 0, none⟩ = some (.slice ao d.ws.length ac) := by rw [← hW]; exact ((Q.refl _).alloc _ _).keep (by rw [World.cell?_alloc_new]; rfl)
  have e1 : (w.alloc (.cells #[.slice ao d.ws.length ac, .slice bo d.ts.length bc, .slice co d.fs.length cc] 39)).heap.size = w.heap.size + 1 := by simp
  have k1 : W.cell? ⟨w.heap.size + 1, 0, none⟩ = some (.string n) := by rw [← hW, ← e1, World.cell?_alloc_new]; rfl
  have k2 : W.cell? ⟨w.heap.size + 1, 1, none⟩ = some (.int .i64 r) := by rw [← hW, ← e1, World.cell?_alloc_new]; rfl
  have k3 : W.cell? ⟨w.heap.size + 1, 2, none⟩ = some (.int .i64 c) := by rw [← hW, ← e1, World.cell?_alloc_new]; rfl
  rw [hW] at hR hQ
  replace hQ := Lib.hid hQ
  clear h e1
  unfold hasW
  obtain ⟨R, hRR⟩ : ∃ R, indexW d.ws 0 n r c = R := ⟨_, rfl⟩
  rw [hRR]
  go_enter Try.func19, Try.ntmps19
  go_wp2
  try rw [hW]
  clear hW
  generalize w.heap.size = H at *
  go_loopw [6, 7] (fun nv iv wr => ∃ (i : Nat) (K : Int), i ≤ d.ws.length ∧ iv = .int .i64 i ∧ nv = .int .i64 K ∧ 0 ≤ K ∧ K ≤ 96 * (i : Int) ∧ R = indexW (d.ws.drop i) K n r c ∧ Q W wr) (fun _ iv _ => d.ws.length + 1 - (intOf iv).toNat)
  case atStart => exact ⟨0, 0, Nat.zero_le _, rfl, rfl, by omega, by omega, hRR.symm, Q.refl _⟩
  case round =>
    obtain ⟨i, K, hi, rfl, rfl, hK0, hK1, hRi, hQi⟩ := hrel
    obtain ⟨wo, rfl⟩ : ∃ wo : World, wo = wr := ⟨_, rfl⟩
    clear hRR
    replace k0 := hQi.keep k0
    replace k1 := hQi.keep k1
    replace k2 := hQi.keep k2
    replace k3 := hQi.keep k3
    by_cases hl : i < d.ws.length
    · have hlB : decide ((i : Int) < (d.ws.length : Int)) = true := decide_eq_true (by omega)
      have hlI : (i : Int) < (d.ws.length : Int) := by omega
      have hi0 : (0 : Int) ≤ (i : Int) := by omega
      have wk1 : IntKind.i64.wrap ((i : Int) + 1) = (i : Int) + 1 := by rw [IntKind.wrap_i64]; omega
      obtain ⟨a, cap, e1, _, _, hr⟩ := (hR.keepB hQi.b).at_ hl
      obtain ⟨rfl, _, rfl⟩ : ao = some a ∧ True ∧ ac = cap := by simpa using e1
      have hbi := hb _ (List.getElem_mem hl)
      rw [index_cons hl] at hRi
      obtain ⟨F, hF⟩ : ∃ F, d.ws[i] = F := ⟨_, rfl⟩
      rw [hF] at hr hRi hbi
      obtain ⟨b1, b2, b3, b4⟩ := hbi
      obtain ⟨g1, g2, g3, g4, sv, g5, g6⟩ := hr
      obtain ⟨so, sc, rfl⟩ := secs_form g6
      obtain ⟨sn, hsn⟩ : ∃ sn, F.l.length = sn := ⟨_, rfl⟩
      rw [hsn] at g5 g6
      clear hsn
      obtain ⟨N, X, Y, Z, SL⟩ := F
      simp only at g1 g2 g3 g4 g5 hRi b1 b2 b3 b4
      have q1 := (Q.refl wo).alloc #[.string N, .int .i64 X, .int .i64 Y, .int .i64 Z, .slice so sn sc] 64
      have m0 := q1.keep k0
      have m1 := q1.keep k1
      have m2 := q1.keep k2
      have m3 := q1.keep k3
      have hs := World.block_lt_of_cell? _ _ k1
      have HQ := Lib.hid (hQi.trans q1)
      have HL := Lib.hid hl
      obtain ⟨W1, hW1⟩ : ∃ W1, wo.alloc (.cells #[.string N, .int .i64 X, .int .i64 Y, .int .i64 Z, .slice so sn sc] 64) = W1 := ⟨_, rfl⟩
      have p0 : W1.cell? ⟨wo.heap.size, 0, none⟩ = some (.string N) := by rw [← hW1, World.cell?_alloc_new]; rfl
      have p1 : W1.cell? ⟨wo.heap.size, 1, none⟩ = some (.int .i64 X) := by rw [← hW1, World.cell?_alloc_new]; rfl
      have p2 : W1.cell? ⟨wo.heap.size, 2, none⟩ = some (.int .i64 Y) := by rw [← hW1, World.cell?_alloc_new]; rfl
      rw [hW1] at m0 m1 m2 m3 HQ
      clear hR hF e1 g6 q1 hs hQi hb hi
      cases hc : (N.toList == n.toList)
      · rw [hc, if_neg (by decide)] at hRi
        have hxy := mul_small (a := X) (b := Y) (by omega) b2 (by omega) b4
        obtain ⟨P, hP⟩ : ∃ P, X * Y = P := ⟨_, rfl⟩
        rw [hP] at hxy hRi
        obtain ⟨K', hK'⟩ : ∃ K', K + P = K' := ⟨_, rfl⟩
        rw [hK'] at hRi
        have w1 : IntKind.i64.wrap (X * Y) = P := by rw [hP, IntKind.wrap_i64]; omega
        have w2 : IntKind.i64.wrap (K + P) = K' := by rw [hK', IntKind.wrap_i64]; omega
        have HS := Lib.hid (And.intro hRi (show 0 ≤ K' ∧ K' ≤ 96 * ((i : Int) + 1) by omega))
        clear hRi hxy hP hK' hK0 hK1 hl b1 b2 b3 b4
        go_wp2
        try rw [hW1]
        go_roundw
        case rel => exact ⟨i + 1, K', by have := HL.out; omega, by go_num, rfl, HS.out.2.1, by have := HS.out.2.2; omega, HS.out.1, HQ.out⟩
        case measure => have := HL.out; simp [intOf]; omega
      · rw [hc, if_pos rfl] at hRi
        by_cases r0 : 0 ≤ r
        · have r0B : decide (r < 0) = false := decide_eq_false (by omega)
          by_cases r1 : r < X
          · have r1B : decide (X ≤ r) = false := decide_eq_false (by omega)
            by_cases c0 : 0 ≤ c
            · have c0B : decide (c < 0) = false := decide_eq_false (by omega)
              by_cases c1 : c < Y
              · have c1B : decide (Y ≤ c) = false := decide_eq_false (by omega)
                rw [if_pos ⟨r0, r1, c0, c1⟩] at hRi
                have hxy := mul_small (a := r) (b := Y) r0 (by omega) (by omega) b4
                obtain ⟨P, hP⟩ : ∃ P, r * Y = P := ⟨_, rfl⟩
                rw [hP] at hxy hRi
                have w1 : IntKind.i64.wrap (r * Y) = P := by rw [hP, IntKind.wrap_i64]; omega
                obtain ⟨K1, hK1'⟩ : ∃ K1, K + P = K1 := ⟨_, rfl⟩
                obtain ⟨K2, hK2⟩ : ∃ K2, K1 + c = K2 := ⟨_, rfl⟩
                have w2 : IntKind.i64.wrap (K + P) = K1 := by rw [hK1', IntKind.wrap_i64]; omega
                have w3 : IntKind.i64.wrap (K1 + c) = K2 := by rw [hK2, IntKind.wrap_i64]; omega
                have e2 : K + (P + c) = K2 := by omega
                rw [e2] at hRi
                subst hRi
                clear hP hxy hK1' hK2 e2 hK0 hK1 b1 b2 b3 b4 r0 r1 c0 c1 hl
                go_wp2
                try rw [hW1]
                go_ret2
                exact ⟨rfl, hQ.out.trans HQ.out⟩
              · have c1B : decide (Y ≤ c) = true := decide_eq_true (by omega)
                rw [if_neg (by omega)] at hRi
                subst hRi
                clear hK0 hK1 b1 b2 b3 b4 r0 r1 c0 c1 hl
                go_wp2
                try rw [hW1]
                go_ret2
                exact ⟨rfl, hQ.out.trans HQ.out⟩
            · have c0B : decide (c < 0) = true := decide_eq_true (by omega)
              rw [if_neg (by omega)] at hRi
              subst hRi
              clear hK0 hK1 b1 b2 b3 b4 r0 r1 c0 hl
              go_wp2
              try rw [hW1]
              go_ret2
              exact ⟨rfl, hQ.out.trans HQ.out⟩
          · have r1B : decide (X ≤ r) = true := decide_eq_true (by omega)
            rw [if_neg (by omega)] at hRi
            subst hRi
            clear hK0 hK1 b1 b2 b3 b4 r0 r1 hl
            go_wp2
            try rw [hW1]
            go_ret2
            exact ⟨rfl, hQ.out.trans HQ.out⟩
        · have r0B : decide (r < 0) = true := decide_eq_true (by omega)
          rw [if_neg (by omega)] at hRi
          subst hRi
          clear hK0 hK1 b1 b2 b3 b4 r0 hl
          go_wp2
          try rw [hW1]
          go_ret2
          exact ⟨rfl, hQ.out.trans HQ.out⟩
    · have hlB : decide ((i : Int) < (d.ws.length : Int)) = false := decide_eq_false (by omega)
      rw [List.drop_eq_nil_of_le (by omega)] at hRi
      have hRn : R = none := hRi
      subst hRn
      have HQ := Lib.hid (hQ.out.trans hQi)
      clear hRi hR hQi hi hK0 hK1
      go_wp2
      go_ret2
      exact ⟨rfl, HQ.out⟩
end Go.Proofs.Ytnmcgleanpdlmaa

namespace Go.Proofs.Ytnmcgleanpdlmaa
open Go.RowKit
set_option linter.unusedVariables false
theorem wwithin_any (v e : Int) (w : World) : Calls Try.prog 80 #[.int .i64 v, .int .i64 e] w fun x w' => x = .returned (.bool (decide (0 ≤ v) && decide (v < e))) ∧ w = w' := by
  cases k1 : decide ((0 : Int) ≤ v)
  · go_enter Try.func80, Try.ntmps80
    go_wp2
    go_ret
    exact ⟨by simp [*], rfl⟩
  · cases k2 : decide (v < e)
    all_goals
      go_enter Try.func80, Try.ntmps80
      go_wp2
      go_ret
      exact ⟨by simp [*], rfl⟩
end Go.Proofs.Ytnmcgleanpdlmaa

namespace Go.Proofs.Ytnmcgleanpdlmaa
open Go.RowKit
theorem r8lower_any (n : Nat) (w : World) : Calls Try.prog 75 #[.int .u8 (n : Int)] w fun e w' => e = .returned (.bool (lowN n)) ∧ w = w' := by
  unfold lowN
  by_cases c : 97 ≤ n
  · have cB : decide ((97 : Int) ≤ (n : Int)) = true := decide_eq_true (by omega)
    have e2 : decide (n ≤ 122) = decide ((n : Int) ≤ 122) := decide_eq_decide.2 (by omega)
    rw [decide_eq_true c, e2, Bool.true_and]
    go_enter Try.func75, Try.ntmps75
    go_wp2
    go_ret
    exact ⟨rfl, rfl⟩
  · have cB : decide ((97 : Int) ≤ (n : Int)) = false := decide_eq_false (by omega)
    rw [decide_eq_false c, Bool.false_and]
    go_enter Try.func75, Try.ntmps75
    go_wp2
    go_ret
    exact ⟨rfl, rfl⟩
theorem r8digit_any (n : Nat) (w : World) : Calls Try.prog 76 #[.int .u8 (n : Int)] w fun e w' => e = .returned (.bool (digN n)) ∧ w = w' := by
  unfold digN
  by_cases c : 48 ≤ n
  · have cB : decide ((48 : Int) ≤ (n : Int)) = true := decide_eq_true (by omega)
    have e2 : decide (n ≤ 57) = decide ((n : Int) ≤ 57) := decide_eq_decide.2 (by omega)
    rw [decide_eq_true c, e2, Bool.true_and]
    go_enter Try.func76, Try.ntmps76
    go_wp2
    go_ret
    exact ⟨rfl, rfl⟩
  · have cB : decide ((48 : Int) ≤ (n : Int)) = false := decide_eq_false (by omega)
    rw [decide_eq_false c, Bool.false_and]
    go_enter Try.func76, Try.ntmps76
    go_wp2
    go_ret
    exact ⟨rfl, rfl⟩
theorem r8name_any (s : ByteArray) (w : World) : Calls Try.prog 61 #[.string s] w fun e w' => e = .returned (.bool (nameS s)) ∧ w = w' := by
  by_cases h1 : s.size < 1
  · have h1B : decide ((s.size : Int) < 1) = true := decide_eq_true (by omega)
    rw [nameS_size (.inl h1)]
    clear h1
    go_enter Try.func61, Try.ntmps61
    go_wp2
    go_ret
    exact ⟨rfl, rfl⟩
  have h1B : decide ((s.size : Int) < 1) = false := decide_eq_false (by omega)
  by_cases h2 : 16 < s.size
  · have h2B : decide ((16 : Int) < (s.size : Int)) = true := decide_eq_true (by omega)
    rw [nameS_size (.inr h2)]
    clear h1 h2
    go_enter Try.func61, Try.ntmps61
    go_wp2
    go_ret
    exact ⟨rfl, rfl⟩
  have h2B : decide ((16 : Int) < (s.size : Int)) = false := decide_eq_false (by omega)
  have hz : (0 : Int) < (s.size : Int) := by omega
  have hg0 : ∀ h : 0 < s.size, (s[0]'h).toNat = byteAt s 0 := fun h => byteAt_get s 0 h
  have c0 := fun w => r8lower_any (byteAt s 0) w
  cases h3 : lowN (byteAt s 0)
  · rw [nameS_first h3]
    rw [h3] at c0
    generalize byteAt s 0 = b0 at *
    clear h3
    go_enter Try.func61, Try.ntmps61
    go_wp2_with fail
    refine (c0 _).mono ?_
    rintro e w1 ⟨rfl, rfl⟩
    go_wp2
    go_ret
    exact ⟨rfl, rfl⟩
  rw [h3] at c0
  have hgood := Lib.hid (fun h => nameS_good (s := s) (by omega) (by omega) h3 h)
  have hbad := @nameS_bad s
  generalize byteAt s 0 = b0 at *
  generalize nameS s = R at *
  clear h3 h1
  go_enter Try.func61, Try.ntmps61
  go_wp2_with fail
  refine (c0 _).mono ?_
  rintro e w1 ⟨rfl, rfl⟩
  clear c0 hg0
  go_wp2
  go_loopw [3] (fun i wr => ∃ k : Nat, k ≤ s.size ∧ i = .int .i64 k ∧ (∀ j, j < k → (lowN (byteAt s j) || digN (byteAt s j)) = true) ∧ w = wr) (fun i _ => s.size + 1 - (intOf i).toNat)
  case atStart => exact ⟨0, Nat.zero_le _, rfl, fun j hj => by omega, rfl⟩
  case round =>
    obtain ⟨k, hk, rfl, hall, rfl⟩ := hrel
    by_cases hl : k < s.size
    · have hlB : decide ((k : Int) < (s.size : Int)) = true := decide_eq_true (by omega)
      have hlI : (k : Int) < (s.size : Int) := by omega
      have hkB : (0 : Int) ≤ (k : Int) := by omega
      have wk1 : IntKind.i64.wrap ((k : Int) + 1) = (k : Int) + 1 := by rw [IntKind.wrap_i64]; omega
      have hg : ∀ h : k < s.size, (s[k]'h).toNat = byteAt s k := fun h => byteAt_get s k h
      have c1 := fun w => r8lower_any (byteAt s k) w
      have c2 := fun w => r8digit_any (byteAt s k) w
      have hb := hbad hl
      have hnext : (lowN (byteAt s k) || digN (byteAt s k)) = true → ∀ j, j < k + 1 → (lowN (byteAt s j) || digN (byteAt s j)) = true := fun h j hj => by
        by_cases c : j = k
        · subst c; exact h
        · exact hall j (by omega)
      clear hall
      generalize byteAt s k = b at *
      cases h4 : lowN b
      · cases h5 : digN b
        · rw [h4, h5] at hb
          obtain rfl := hb rfl
          rw [h4] at c1
          rw [h5] at c2
          clear hnext h4 h5
          go_wp2_with fail
          refine (c1 _).mono ?_
          rintro e w1 ⟨rfl, rfl⟩
          go_wp2_with fail
          refine (c2 _).mono ?_
          rintro e w1 ⟨rfl, rfl⟩
          go_wp2
          go_ret
          exact ⟨rfl, rfl⟩
        · have HA := Lib.hid (hnext (by rw [h4, h5]; rfl))
          rw [h4] at c1
          rw [h5] at c2
          clear hnext h4 h5 hb
          go_wp2_with fail
          refine (c1 _).mono ?_
          rintro e w1 ⟨rfl, rfl⟩
          go_wp2_with fail
          refine (c2 _).mono ?_
          rintro e w1 ⟨rfl, rfl⟩
          go_wp2
          go_roundw
          case rel => exact ⟨k + 1, by omega, by go_num, HA.out, trivial⟩
          case measure => simp [intOf]; omega
      · have HA := Lib.hid (hnext (by rw [h4]; rfl))
        rw [h4] at c1
        clear hnext h4 hb c2
        go_wp2_with fail
        refine (c1 _).mono ?_
        rintro e w1 ⟨rfl, rfl⟩
        go_wp2
        go_roundw
        case rel => exact ⟨k + 1, by omega, by go_num, HA.out, trivial⟩
        case measure => simp [intOf]; omega
    · have hlB : decide ((k : Int) < (s.size : Int)) = false := decide_eq_false (by omega)
      have HR := Lib.hid (hgood.out (fun i hi => hall i (by omega)))
      clear hall hgood hbad
      go_wp2
      go_ret
      exact ⟨by rw [HR.out]; rfl, rfl⟩
end Go.Proofs.Ytnmcgleanpdlmaa

namespace Go.Proofs.Ytnmcgleanpdlmaa
open Go.RowKit
theorem kind_any (n : Nat) (w : World) : Calls Try.prog 81 #[.int .u8 (n : Int)] w fun e w' => e = .returned (.int .i64 ((kindN n : Nat) : Int)) ∧ w = w' := by
  have cs : (n < 9) ∨ (n = 9) ∨ (n = 10) ∨ (11 ≤ n ∧ n ≤ 31) ∨ (n = 32) ∨ (33 ≤ n ∧ n ≤ 34) ∨ (n = 35) ∨ (36 ≤ n ∧ n ≤ 45) ∨ (n = 46) ∨ (n = 47) ∨ (48 ≤ n ∧ n ≤ 57) ∨ (58 ≤ n ∧ n ≤ 64) ∨ (65 ≤ n ∧ n ≤ 90) ∨ (91 ≤ n ∧ n ≤ 96) ∨ (97 ≤ n ∧ n ≤ 122) ∨ (122 < n) := by omega
  rcases cs with c | c | c | c | c | c | c | c | c | c | c | c | c | c | c | c
  · have hk : kindN n = 0 := by unfold kindN lowN capN digN; simp only [Bool.and_eq_true, decide_eq_true_eq]; repeat (first | rw [if_pos (by omega)] | rw [if_neg (by omega)])
    rw [hk]
    have g97 : decide ((97 : Int) ≤ (n : Int)) = false := decide_eq_false (by omega)
    have g65 : decide ((65 : Int) ≤ (n : Int)) = false := decide_eq_false (by omega)
    have g48 : decide ((48 : Int) ≤ (n : Int)) = false := decide_eq_false (by omega)
    have l122 : decide ((n : Int) ≤ 122) = true := decide_eq_true (by omega)
    have l90 : decide ((n : Int) ≤ 90) = true := decide_eq_true (by omega)
    have l57 : decide ((n : Int) ≤ 57) = true := decide_eq_true (by omega)
    have e46 : ((n : Int) == 46) = false := by simp; omega
    have e32 : ((n : Int) == 32) = false := by simp; omega
    have e9 : ((n : Int) == 9) = false := by simp; omega
    have e10 : ((n : Int) == 10) = false := by simp; omega
    have e35 : ((n : Int) == 35) = false := by simp; omega
    clear c hk
    go_enter Try.func81, Try.ntmps81
    go_wp2
    go_ret
    exact ⟨rfl, rfl⟩
  · have hk : kindN n = 5 := by unfold kindN lowN capN digN; simp only [Bool.and_eq_true, decide_eq_true_eq]; repeat (first | rw [if_pos (by omega)] | rw [if_neg (by omega)])
    rw [hk]
    have g97 : decide ((97 : Int) ≤ (n : Int)) = false := decide_eq_false (by omega)
    have g65 : decide ((65 : Int) ≤ (n : Int)) = false := decide_eq_false (by omega)
    have g48 : decide ((48 : Int) ≤ (n : Int)) = false := decide_eq_false (by omega)
    have l122 : decide ((n : Int) ≤ 122) = true := decide_eq_true (by omega)
    have l90 : decide ((n : Int) ≤ 90) = true := decide_eq_true (by omega)
    have l57 : decide ((n : Int) ≤ 57) = true := decide_eq_true (by omega)
    have e46 : ((n : Int) == 46) = false := by simp; omega
    have e32 : ((n : Int) == 32) = false := by simp; omega
    have e9 : ((n : Int) == 9) = true := by simp; omega
    have e10 : ((n : Int) == 10) = false := by simp; omega
    have e35 : ((n : Int) == 35) = false := by simp; omega
    clear c hk
    go_enter Try.func81, Try.ntmps81
    go_wp2
    go_ret
    exact ⟨rfl, rfl⟩
  · have hk : kindN n = 6 := by unfold kindN lowN capN digN; simp only [Bool.and_eq_true, decide_eq_true_eq]; repeat (first | rw [if_pos (by omega)] | rw [if_neg (by omega)])
    rw [hk]
    have g97 : decide ((97 : Int) ≤ (n : Int)) = false := decide_eq_false (by omega)
    have g65 : decide ((65 : Int) ≤ (n : Int)) = false := decide_eq_false (by omega)
    have g48 : decide ((48 : Int) ≤ (n : Int)) = false := decide_eq_false (by omega)
    have l122 : decide ((n : Int) ≤ 122) = true := decide_eq_true (by omega)
    have l90 : decide ((n : Int) ≤ 90) = true := decide_eq_true (by omega)
    have l57 : decide ((n : Int) ≤ 57) = true := decide_eq_true (by omega)
    have e46 : ((n : Int) == 46) = false := by simp; omega
    have e32 : ((n : Int) == 32) = false := by simp; omega
    have e9 : ((n : Int) == 9) = false := by simp; omega
    have e10 : ((n : Int) == 10) = true := by simp; omega
    have e35 : ((n : Int) == 35) = false := by simp; omega
    clear c hk
    go_enter Try.func81, Try.ntmps81
    go_wp2
    go_ret
    exact ⟨rfl, rfl⟩
  · have hk : kindN n = 0 := by unfold kindN lowN capN digN; simp only [Bool.and_eq_true, decide_eq_true_eq]; repeat (first | rw [if_pos (by omega)] | rw [if_neg (by omega)])
    rw [hk]
    have g97 : decide ((97 : Int) ≤ (n : Int)) = false := decide_eq_false (by omega)
    have g65 : decide ((65 : Int) ≤ (n : Int)) = false := decide_eq_false (by omega)
    have g48 : decide ((48 : Int) ≤ (n : Int)) = false := decide_eq_false (by omega)
    have l122 : decide ((n : Int) ≤ 122) = true := decide_eq_true (by omega)
    have l90 : decide ((n : Int) ≤ 90) = true := decide_eq_true (by omega)
    have l57 : decide ((n : Int) ≤ 57) = true := decide_eq_true (by omega)
    have e46 : ((n : Int) == 46) = false := by simp; omega
    have e32 : ((n : Int) == 32) = false := by simp; omega
    have e9 : ((n : Int) == 9) = false := by simp; omega
    have e10 : ((n : Int) == 10) = false := by simp; omega
    have e35 : ((n : Int) == 35) = false := by simp; omega
    clear c hk
    go_enter Try.func81, Try.ntmps81
    go_wp2
    go_ret
    exact ⟨rfl, rfl⟩
  · have hk : kindN n = 5 := by unfold kindN lowN capN digN; simp only [Bool.and_eq_true, decide_eq_true_eq]; repeat (first | rw [if_pos (by omega)] | rw [if_neg (by omega)])
    rw [hk]
    have g97 : decide ((97 : Int) ≤ (n : Int)) = false := decide_eq_false (by omega)
    have g65 : decide ((65 : Int) ≤ (n : Int)) = false := decide_eq_false (by omega)
    have g48 : decide ((48 : Int) ≤ (n : Int)) = false := decide_eq_false (by omega)
    have l122 : decide ((n : Int) ≤ 122) = true := decide_eq_true (by omega)
    have l90 : decide ((n : Int) ≤ 90) = true := decide_eq_true (by omega)
    have l57 : decide ((n : Int) ≤ 57) = true := decide_eq_true (by omega)
    have e46 : ((n : Int) == 46) = false := by simp; omega
    have e32 : ((n : Int) == 32) = true := by simp; omega
    have e9 : ((n : Int) == 9) = false := by simp; omega
    have e10 : ((n : Int) == 10) = false := by simp; omega
    have e35 : ((n : Int) == 35) = false := by simp; omega
    clear c hk
    go_enter Try.func81, Try.ntmps81
    go_wp2
    go_ret
    exact ⟨rfl, rfl⟩
  · have hk : kindN n = 0 := by unfold kindN lowN capN digN; simp only [Bool.and_eq_true, decide_eq_true_eq]; repeat (first | rw [if_pos (by omega)] | rw [if_neg (by omega)])
    rw [hk]
    have g97 : decide ((97 : Int) ≤ (n : Int)) = false := decide_eq_false (by omega)
    have g65 : decide ((65 : Int) ≤ (n : Int)) = false := decide_eq_false (by omega)
    have g48 : decide ((48 : Int) ≤ (n : Int)) = false := decide_eq_false (by omega)
    have l122 : decide ((n : Int) ≤ 122) = true := decide_eq_true (by omega)
    have l90 : decide ((n : Int) ≤ 90) = true := decide_eq_true (by omega)
    have l57 : decide ((n : Int) ≤ 57) = true := decide_eq_true (by omega)
    have e46 : ((n : Int) == 46) = false := by simp; omega
    have e32 : ((n : Int) == 32) = false := by simp; omega
    have e9 : ((n : Int) == 9) = false := by simp; omega
    have e10 : ((n : Int) == 10) = false := by simp; omega
    have e35 : ((n : Int) == 35) = false := by simp; omega
    clear c hk
    go_enter Try.func81, Try.ntmps81
    go_wp2
    go_ret
    exact ⟨rfl, rfl⟩
  · have hk : kindN n = 7 := by unfold kindN lowN capN digN; simp only [Bool.and_eq_true, decide_eq_true_eq]; repeat (first | rw [if_pos (by omega)] | rw [if_neg (by omega)])
    rw [hk]
    have g97 : decide ((97 : Int) ≤ (n : Int)) = false := decide_eq_false (by omega)
    have g65 : decide ((65 : Int) ≤ (n : Int)) = false := decide_eq_false (by omega)
    have g48 : decide ((48 : Int) ≤ (n : Int)) = false := decide_eq_false (by omega)
    have l122 : decide ((n : Int) ≤ 122) = true := decide_eq_true (by omega)
    have l90 : decide ((n : Int) ≤ 90) = true := decide_eq_true (by omega)
    have l57 : decide ((n : Int) ≤ 57) = true := decide_eq_true (by omega)
    have e46 : ((n : Int) == 46) = false := by simp; omega
    have e32 : ((n : Int) == 32) = false := by simp; omega
    have e9 : ((n : Int) == 9) = false := by simp; omega
    have e10 : ((n : Int) == 10) = false := by simp; omega
    have e35 : ((n : Int) == 35) = true := by simp; omega
    clear c hk
    go_enter Try.func81, Try.ntmps81
    go_wp2
    go_ret
    exact ⟨rfl, rfl⟩
  · have hk : kindN n = 0 := by unfold kindN lowN capN digN; simp only [Bool.and_eq_true, decide_eq_true_eq]; repeat (first | rw [if_pos (by omega)] | rw [if_neg (by omega)])
    rw [hk]
    have g97 : decide ((97 : Int) ≤ (n : Int)) = false := decide_eq_false (by omega)
    have g65 : decide ((65 : Int) ≤ (n : Int)) = false := decide_eq_false (by omega)
    have g48 : decide ((48 : Int) ≤ (n : Int)) = false := decide_eq_false (by omega)
    have l122 : decide ((n : Int) ≤ 122) = true := decide_eq_true (by omega)
    have l90 : decide ((n : Int) ≤ 90) = true := decide_eq_true (by omega)
    have l57 : decide ((n : Int) ≤ 57) = true := decide_eq_true (by omega)
    have e46 : ((n : Int) == 46) = false := by simp; omega
    have e32 : ((n : Int) == 32) = false := by simp; omega
    have e9 : ((n : Int) == 9) = false := by simp; omega
    have e10 : ((n : Int) == 10) = false := by simp; omega
    have e35 : ((n : Int) == 35) = false := by simp; omega
    clear c hk
    go_enter Try.func81, Try.ntmps81
    go_wp2
    go_ret
    exact ⟨rfl, rfl⟩
  · have hk : kindN n = 4 := by unfold kindN lowN capN digN; simp only [Bool.and_eq_true, decide_eq_true_eq]; repeat (first | rw [if_pos (by omega)] | rw [if_neg (by omega)])
    rw [hk]
    have g97 : decide ((97 : Int) ≤ (n : Int)) = false := decide_eq_false (by omega)
    have g65 : decide ((65 : Int) ≤ (n : Int)) = false := decide_eq_false (by omega)
    have g48 : decide ((48 : Int) ≤ (n : Int)) = false := decide_eq_false (by omega)
    have l122 : decide ((n : Int) ≤ 122) = true := decide_eq_true (by omega)
    have l90 : decide ((n : Int) ≤ 90) = true := decide_eq_true (by omega)
    have l57 : decide ((n : Int) ≤ 57) = true := decide_eq_true (by omega)
    have e46 : ((n : Int) == 46) = true := by simp; omega
    have e32 : ((n : Int) == 32) = false := by simp; omega
    have e9 : ((n : Int) == 9) = false := by simp; omega
    have e10 : ((n : Int) == 10) = false := by simp; omega
    have e35 : ((n : Int) == 35) = false := by simp; omega
    clear c hk
    go_enter Try.func81, Try.ntmps81
    go_wp2
    go_ret
    exact ⟨rfl, rfl⟩
  · have hk : kindN n = 0 := by unfold kindN lowN capN digN; simp only [Bool.and_eq_true, decide_eq_true_eq]; repeat (first | rw [if_pos (by omega)] | rw [if_neg (by omega)])
    rw [hk]
    have g97 : decide ((97 : Int) ≤ (n : Int)) = false := decide_eq_false (by omega)
    have g65 : decide ((65 : Int) ≤ (n : Int)) = false := decide_eq_false (by omega)
    have g48 : decide ((48 : Int) ≤ (n : Int)) = false := decide_eq_false (by omega)
    have l122 : decide ((n : Int) ≤ 122) = true := decide_eq_true (by omega)
    have l90 : decide ((n : Int) ≤ 90) = true := decide_eq_true (by omega)
    have l57 : decide ((n : Int) ≤ 57) = true := decide_eq_true (by omega)
    have e46 : ((n : Int) == 46) = false := by simp; omega
    have e32 : ((n : Int) == 32) = false := by simp; omega
    have e9 : ((n : Int) == 9) = false := by simp; omega
    have e10 : ((n : Int) == 10) = false := by simp; omega
    have e35 : ((n : Int) == 35) = false := by simp; omega
    clear c hk
    go_enter Try.func81, Try.ntmps81
    go_wp2
    go_ret
    exact ⟨rfl, rfl⟩
  · have hk : kindN n = 3 := by unfold kindN lowN capN digN; simp only [Bool.and_eq_true, decide_eq_true_eq]; repeat (first | rw [if_pos (by omega)] | rw [if_neg (by omega)])
    rw [hk]
    have g97 : decide ((97 : Int) ≤ (n : Int)) = false := decide_eq_false (by omega)
    have g65 : decide ((65 : Int) ≤ (n : Int)) = false := decide_eq_false (by omega)
    have g48 : decide ((48 : Int) ≤ (n : Int)) = true := decide_eq_true (by omega)
    have l122 : decide ((n : Int) ≤ 122) = true := decide_eq_true (by omega)
    have l90 : decide ((n : Int) ≤ 90) = true := decide_eq_true (by omega)
    have l57 : decide ((n : Int) ≤ 57) = true := decide_eq_true (by omega)
    have e46 : ((n : Int) == 46) = false := by simp; omega
    have e32 : ((n : Int) == 32) = false := by simp; omega
    have e9 : ((n : Int) == 9) = false := by simp; omega
    have e10 : ((n : Int) == 10) = false := by simp; omega
    have e35 : ((n : Int) == 35) = false := by simp; omega
    clear c hk
    go_enter Try.func81, Try.ntmps81
    go_wp2
    go_ret
    exact ⟨rfl, rfl⟩
  · have hk : kindN n = 0 := by unfold kindN lowN capN digN; simp only [Bool.and_eq_true, decide_eq_true_eq]; repeat (first | rw [if_pos (by omega)] | rw [if_neg (by omega)])
    rw [hk]
    have g97 : decide ((97 : Int) ≤ (n : Int)) = false := decide_eq_false (by omega)
    have g65 : decide ((65 : Int) ≤ (n : Int)) = false := decide_eq_false (by omega)
    have g48 : decide ((48 : Int) ≤ (n : Int)) = true := decide_eq_true (by omega)
    have l122 : decide ((n : Int) ≤ 122) = true := decide_eq_true (by omega)
    have l90 : decide ((n : Int) ≤ 90) = true := decide_eq_true (by omega)
    have l57 : decide ((n : Int) ≤ 57) = false := decide_eq_false (by omega)
    have e46 : ((n : Int) == 46) = false := by simp; omega
    have e32 : ((n : Int) == 32) = false := by simp; omega
    have e9 : ((n : Int) == 9) = false := by simp; omega
    have e10 : ((n : Int) == 10) = false := by simp; omega
    have e35 : ((n : Int) == 35) = false := by simp; omega
    clear c hk
    go_enter Try.func81, Try.ntmps81
    go_wp2
    go_ret
    exact ⟨rfl, rfl⟩
  · have hk : kindN n = 2 := by unfold kindN lowN capN digN; simp only [Bool.and_eq_true, decide_eq_true_eq]; repeat (first | rw [if_pos (by omega)] | rw [if_neg (by omega)])
    rw [hk]
    have g97 : decide ((97 : Int) ≤ (n : Int)) = false := decide_eq_false (by omega)
    have g65 : decide ((65 : Int) ≤ (n : Int)) = true := decide_eq_true (by omega)
    have g48 : decide ((48 : Int) ≤ (n : Int)) = true := decide_eq_true (by omega)
    have l122 : decide ((n : Int) ≤ 122) = true := decide_eq_true (by omega)
    have l90 : decide ((n : Int) ≤ 90) = true := decide_eq_true (by omega)
    have l57 : decide ((n : Int) ≤ 57) = false := decide_eq_false (by omega)
    have e46 : ((n : Int) == 46) = false := by simp; omega
    have e32 : ((n : Int) == 32) = false := by simp; omega
    have e9 : ((n : Int) == 9) = false := by simp; omega
    have e10 : ((n : Int) == 10) = false := by simp; omega
    have e35 : ((n : Int) == 35) = false := by simp; omega
    clear c hk
    go_enter Try.func81, Try.ntmps81
    go_wp2
    go_ret
    exact ⟨rfl, rfl⟩
  · have hk : kindN n = 0 := by unfold kindN lowN capN digN; simp only [Bool.and_eq_true, decide_eq_true_eq]; repeat (first | rw [if_pos (by omega)] | rw [if_neg (by omega)])
    rw [hk]
    have g97 : decide ((97 : Int) ≤ (n : Int)) = false := decide_eq_false (by omega)
    have g65 : decide ((65 : Int) ≤ (n : Int)) = true := decide_eq_true (by omega)
    have g48 : decide ((48 : Int) ≤ (n : Int)) = true := decide_eq_true (by omega)
    have l122 : decide ((n : Int) ≤ 122) = true := decide_eq_true (by omega)
    have l90 : decide ((n : Int) ≤ 90) = false := decide_eq_false (by omega)
    have l57 : decide ((n : Int) ≤ 57) = false := decide_eq_false (by omega)
    have e46 : ((n : Int) == 46) = false := by simp; omega
    have e32 : ((n : Int) == 32) = false := by simp; omega
    have e9 : ((n : Int) == 9) = false := by simp; omega
    have e10 : ((n : Int) == 10) = false := by simp; omega
    have e35 : ((n : Int) == 35) = false := by simp; omega
    clear c hk
    go_enter Try.func81, Try.ntmps81
    go_wp2
    go_ret
    exact ⟨rfl, rfl⟩
  · have hk : kindN n = 1 := by unfold kindN lowN capN digN; simp only [Bool.and_eq_true, decide_eq_true_eq]; repeat (first | rw [if_pos (by omega)] | rw [if_neg (by omega)])
    rw [hk]
    have g97 : decide ((97 : Int) ≤ (n : Int)) = true := decide_eq_true (by omega)
    have g65 : decide ((65 : Int) ≤ (n : Int)) = true := decide_eq_true (by omega)
    have g48 : decide ((48 : Int) ≤ (n : Int)) = true := decide_eq_true (by omega)
    have l122 : decide ((n : Int) ≤ 122) = true := decide_eq_true (by omega)
    have l90 : decide ((n : Int) ≤ 90) = false := decide_eq_false (by omega)
    have l57 : decide ((n : Int) ≤ 57) = false := decide_eq_false (by omega)
    have e46 : ((n : Int) == 46) = false := by simp; omega
    have e32 : ((n : Int) == 32) = false := by simp; omega
    have e9 : ((n : Int) == 9) = false := by simp; omega
    have e10 : ((n : Int) == 10) = false := by simp; omega
    have e35 : ((n : Int) == 35) = false := by simp; omega
    clear c hk
    go_enter Try.func81, Try.ntmps81
    go_wp2
    go_ret
    exact ⟨rfl, rfl⟩
  · have hk : kindN n = 0 := by unfold kindN lowN capN digN; simp only [Bool.and_eq_true, decide_eq_true_eq]; repeat (first | rw [if_pos (by omega)] | rw [if_neg (by omega)])
    rw [hk]
    have g97 : decide ((97 : Int) ≤ (n : Int)) = true := decide_eq_true (by omega)
    have g65 : decide ((65 : Int) ≤ (n : Int)) = true := decide_eq_true (by omega)
    have g48 : decide ((48 : Int) ≤ (n : Int)) = true := decide_eq_true (by omega)
    have l122 : decide ((n : Int) ≤ 122) = false := decide_eq_false (by omega)
    have l90 : decide ((n : Int) ≤ 90) = false := decide_eq_false (by omega)
    have l57 : decide ((n : Int) ≤ 57) = false := decide_eq_false (by omega)
    have e46 : ((n : Int) == 46) = false := by simp; omega
    have e32 : ((n : Int) == 32) = false := by simp; omega
    have e9 : ((n : Int) == 9) = false := by simp; omega
    have e10 : ((n : Int) == 10) = false := by simp; omega
    have e35 : ((n : Int) == 35) = false := by simp; omega
    clear c hk
    go_enter Try.func81, Try.ntmps81
    go_wp2
    go_ret
    exact ⟨rfl, rfl⟩
end Go.Proofs.Ytnmcgleanpdlmaa

namespace Go.Proofs.Ytnmcgleanpdlmaa
open Go.RowKit
set_option linter.unusedVariables false
theorem wsize_any (N : ByteArray) (X Y Z : Int) (sv : Value) (so : Option Addr) (sn sc : Nat) (hsv : sv = .slice so sn sc) (hb : 1 ≤ X ∧ X ≤ 8 ∧ 1 ≤ Y ∧ Y ≤ 12) (w : World) : Calls Try.prog 41 #[.agg #[.string N, .int .i64 X, .int .i64 Y, .int .i64 Z, sv]] w fun x w' => x = .returned (.int .i64 (X * Y)) ∧ Q w w' := by
  subst hsv
  obtain ⟨b1, b2, b3, b4⟩ := hb
  have hQ := (Q.refl w).alloc #[.string N, .int .i64 X, .int .i64 Y, .int .i64 Z, .slice so sn sc] 64
  have hxy := mul_small (a := X) (b := Y) (by omega) b2 (by omega) b4
  obtain ⟨P, hP⟩ : ∃ P, X * Y = P := ⟨_, rfl⟩
  rw [hP] at hxy ⊢
  have w1 : IntKind.i64.wrap (X * Y) = P := by rw [hP, IntKind.wrap_i64]; omega
  have k1 : decide (X < 1) = false := decide_eq_false (by omega)
  have k2 : decide ((8 : Int) < X) = false := decide_eq_false (by omega)
  have k3 : decide (Y < 1) = false := decide_eq_false (by omega)
  have k4 : decide ((12 : Int) < Y) = false := decide_eq_false (by omega)
  have HQ := Lib.hid hQ
  clear hP hxy b1 b2 b3 b4 hQ
  go_enter Try.func41, Try.ntmps41
  go_wp2
  go_ret
  exact ⟨rfl, HQ.out⟩
/-- Has a ware that well? -/
def hasB (N : ByteArray) (X Y : Int) (n : ByteArray) (r c : Int) : Bool := (N.toList == n.toList) && (decide (0 ≤ r) && decide (r < X)) && (decide (0 ≤ c) && decide (c < Y))
theorem whas_any (N : ByteArray) (X Y Z : Int) (sv : Value) (so : Option Addr) (sn sc : Nat) (hsv : sv = .slice so sn sc) (n : ByteArray) (r c : Int) (hX : I64 X) (hY : I64 Y) (hr : I64 r) (hc : I64 c) (w : World) : Calls Try.prog 70 #[.agg #[.string N, .int .i64 X, .int .i64 Y, .int .i64 Z, sv], .agg #[.string n, .int .i64 r, .int .i64 c]] w fun x w' => x = .returned (.bool (hasB N X Y n r c)) ∧ Q w w' := by
  subst hsv
  have hQ := ((Q.refl w).alloc #[.string N, .int .i64 X, .int .i64 Y, .int .i64 Z, .slice so sn sc] 64).alloc #[.string n, .int .i64 r, .int .i64 c] 50
  have cr := fun w => wwithin_any r X w
  have cc := fun w => wwithin_any c Y w
  have u1 : IntKind.i64.wrap X = X := by rw [IntKind.wrap_i64]; unfold I64 at hX; omega
  have u2 : IntKind.i64.wrap Y = Y := by rw [IntKind.wrap_i64]; unfold I64 at hY; omega
  have u3 : IntKind.i64.wrap r = r := by rw [IntKind.wrap_i64]; unfold I64 at hr; omega
  have u4 : IntKind.i64.wrap c = c := by rw [IntKind.wrap_i64]; unfold I64 at hc; omega
  have HQ := Lib.hid hQ
  clear hQ hX hY hr hc
  unfold hasB
  generalize (decide (0 ≤ r) && decide (r < X)) = b2 at *
  generalize (decide (0 ≤ c) && decide (c < Y)) = b3 at *
  cases hb : (N.toList == n.toList)
  · go_enter Try.func70, Try.ntmps70
    go_wp2
    go_ret
    exact ⟨rfl, HQ.out⟩
  · cases b2
    · go_enter Try.func70, Try.ntmps70
      go_wp2_with fail
      refine (cr _).mono ?_
      rintro _ _ ⟨rfl, rfl⟩
      go_wp2
      go_ret
      exact ⟨rfl, HQ.out⟩
    · go_enter Try.func70, Try.ntmps70
      go_wp2_with fail
      refine (cr _).mono ?_
      rintro _ _ ⟨rfl, rfl⟩
      go_wp2_with fail
      refine (cc _).mono ?_
      rintro _ _ ⟨rfl, rfl⟩
      go_wp2
      go_ret
      exact ⟨by cases b3 <;> rfl, HQ.out⟩
end Go.Proofs.Ytnmcgleanpdlmaa
