/-
  Bytes, words, lines of words in memory. No program is named here; Decks as texts: which may be, how they are said, how lines of words are read. No program is named here; Fills, decks in memory. No program is named here; Steps of protocols: which may be, how they are said, how they lie in memory. No program is named here; Steps in a row that the call owns. No program is named here; A list in new memory: append onto nil of what comes in; Steps copied into a row that the call owns, and bent there. No program is named here; What becomes of the world where blocks of known kinds may turn, from a base on. No program is named here.
-/
import Derived.Laws.OwnMore
import Derived.Laws.BytesArg
import Derived.OwnWalk
import Derived.Maps.AppendAt
import Derived.Test.YtnmcgleanpdlmaaDoorY1
import Derived.Test.YtnmcgleanpdlmaaDoorY2
namespace Go.Proofs.YtnmcgleanpdlmaaDoor
open Go.RowKit
/-- Bytes lie in block b, from place o on. -/
def BAt (w : World) (b o : Nat) (bs : List UInt8) : Prop := ∀ i c, bs[i]? = some c → w.cell? ⟨b, o + i, none⟩ = some (.int .u8 ((c.toNat : Nat) : Int))
theorem BAt.keep {w w' : World} {b o : Nat} {bs : List UInt8} (h : BAt w b o bs) (q : B w w') : BAt w' b o bs := fun i c hc => q.keep (h i c hc)
/-- The header of a slice of bytes. -/
structure IsB (w : World) (ao : Option Addr) (cap b o : Nat) (bs : List UInt8) : Prop where
  at_ : BAt w b o bs
  ao : 0 < bs.length → ao = some ⟨b, o, none⟩
  le : bs.length ≤ cap
  max : cap ≤ maxLen
theorem IsB.keep {w w' : World} {ao : Option Addr} {cap b o : Nat} {bs : List UInt8} (h : IsB w ao cap b o bs) (q : B w w') : IsB w' ao cap b o bs := ⟨h.at_.keep q, h.ao, h.le, h.max⟩
/-- Numbers of bytes, as the library's contracts want them. -/
def nums (bs : List UInt8) : List Int := bs.map fun c => ((c.toNat : Nat) : Int)
theorem nums_len (bs : List UInt8) : (nums bs).length = bs.length := by simp [nums]
theorem nums_get (bs : List UInt8) (i : Nat) (c : UInt8) (h : bs[i]? = some c) : (nums bs).getD i 0 = ((c.toNat : Nat) : Int) := by
  unfold nums
  rw [List.getD_eq_getElem?_getD, List.getElem?_map, h]
  rfl
theorem bytes_nums (bs : List UInt8) : (nums bs).map (fun n => UInt8.ofNat n.toNat) = bs := by
  unfold nums
  rw [List.map_map]
  conv => rhs; rw [← List.map_id bs]
  apply List.map_congr_left
  intro c _
  simp
theorem BAt.nums {w : World} {b o n : Nat} {bs : List UInt8} (h : BAt w b o bs) (hn : bs.length = n) : ∀ i, i < n → w.cell? ⟨b, o + i, none⟩ = some (.int .u8 ((nums bs).getD i 0)) := fun i hi => by
  have hg : bs[i]? = some bs[i] := List.getElem?_eq_getElem (by omega)
  rw [nums_get bs i _ hg]
  exact h i _ hg
theorem BAt.drop {w : World} {b o : Nat} {bs : List UInt8} (h : BAt w b o bs) (k : Nat) : BAt w b (o + k) (bs.drop k) := fun i c hc => by
  rw [List.getElem?_drop] at hc
  rw [Nat.add_assoc]
  exact h _ _ hc
theorem BAt.take {w : World} {b o : Nat} {bs : List UInt8} (h : BAt w b o bs) (k : Nat) : BAt w b o (bs.take k) := fun i c hc => by
  rw [List.getElem?_take] at hc
  split at hc
  · exact h _ _ hc
  · cases hc
/-- A string of bytes. -/
def strB (l : List UInt8) : ByteArray := ⟨l.toArray⟩
theorem strB_size (l : List UInt8) : (strB l).size = l.length := by simp [strB, ByteArray.size]
theorem strB_nums (l : List UInt8) : strOfNums (nums l) = strB l := by
  unfold strOfNums strB
  rw [bytes_nums]
/-- The cells of words. -/
def flatW (ws : List Wd) : List Value := ws.flatMap fun x => [.int .i64 ((x.1 : Nat) : Int), .string (strB x.2)]
theorem flatW_get : ∀ (ws : List Wd) (i : Nat) (x : Wd), ws[i]? = some x → (flatW ws)[i * 2]? = some (.int .i64 ((x.1 : Nat) : Int)) ∧ (flatW ws)[i * 2 + 1]? = some (.string (strB x.2))
  | [], _, _, h => by simp at h
  | y :: l, 0, x, h => by
    simp at h; subst h; exact ⟨rfl, rfl⟩
  | y :: l, i + 1, x, h => by
    have ih := flatW_get l i x (by simpa using h)
    constructor
    · show ([_, _] ++ flatW l)[(i + 1) * 2]? = _
      rw [List.getElem?_append_right (by simp; omega), show (i + 1) * 2 - ([_, _] : List Value).length = i * 2 by simp; omega]
      exact ih.1
    · show ([_, _] ++ flatW l)[(i + 1) * 2 + 1]? = _
      rw [List.getElem?_append_right (by simp; omega), show (i + 1) * 2 + 1 - ([_, _] : List Value).length = i * 2 + 1 by simp; omega]
      exact ih.2
theorem flatW_snoc (ws : List Wd) (x : Wd) : flatW (ws ++ [x]) = flatW ws ++ [.int .i64 ((x.1 : Nat) : Int), .string (strB x.2)] := by simp [flatW]
/-- Words in memory. -/
def IsWords (w : World) (v : Value) (ws : List Wd) : Prop :=
  (v = .slice none 0 0 ∧ ws = []) ∨
  ∃ g cap, v = .slice (some ⟨g, 0, none⟩) ws.length cap ∧ ws.length ≤ cap ∧ cap ≤ maxLen ∧ ∀ i x, ws[i]? = some x → w.cell? ⟨g, i * 2, none⟩ = some (.int .i64 ((x.1 : Nat) : Int)) ∧ w.cell? ⟨g, i * 2 + 1, none⟩ = some (.string (strB x.2))
theorem IsWords.form {w : World} {v : Value} {ws : List Wd} (h : IsWords w v ws) : ∃ ao cap, v = .slice ao ws.length cap := by
  rcases h with ⟨rfl, rfl⟩ | ⟨g, cap, rfl, _⟩ <;> exact ⟨_, _, rfl⟩
theorem IsWords.full {w : World} {v : Value} {ws : List Wd} (h : IsWords w v ws) (hw : 0 < ws.length) : ∃ g cap, v = .slice (some ⟨g, 0, none⟩) ws.length cap ∧ ws.length ≤ cap ∧ cap ≤ maxLen ∧ g < w.heap.size ∧ ∀ i x, ws[i]? = some x → w.cell? ⟨g, i * 2, none⟩ = some (.int .i64 ((x.1 : Nat) : Int)) ∧ w.cell? ⟨g, i * 2 + 1, none⟩ = some (.string (strB x.2)) := by
  rcases h with ⟨rfl, rfl⟩ | ⟨g, cap, h1, h2, h3, h4⟩
  · simp at hw
  · exact ⟨g, cap, h1, h2, h3, World.block_lt_of_cell? w _ (h4 0 _ (List.getElem?_eq_getElem hw)).1, h4⟩
/-- Words stay where their block stays. -/
theorem IsWords.block {w w' : World} {v : Value} {ws : List Wd} (h : IsWords w v ws) (hb : ∀ b, v.ownBlock = some b → b < w.heap.size → w'.heap[b]? = w.heap[b]?) : IsWords w' v ws := by
  rcases h with h | ⟨g, cap, rfl, h2, h3, h4⟩
  · exact .inl h
  · refine .inr ⟨g, cap, rfl, h2, h3, fun i x hx => ?_⟩
    obtain ⟨k1, k2⟩ := h4 i x hx
    have hlt := World.block_lt_of_cell? w _ k1
    have e := hb g rfl hlt
    exact ⟨(World.cell?_of_block (a := ⟨g, i * 2, none⟩) e).trans k1, (World.cell?_of_block (a := ⟨g, i * 2 + 1, none⟩) e).trans k2⟩
theorem IsWords.keep {w w' : World} {v : Value} {ws : List Wd} (h : IsWords w v ws) (q : B w w') : IsWords w' v ws := h.block fun b _ hlt => q.below.block b hlt
theorem words_own {w : World} {base : Nat} {e : TypeId} {ao : Option Addr} {k c : Nat} {ws : List Wd} (h : w.ownsRow base e 2 (.slice ao k c) k (flatW ws)) (hl : ws.length = k) : IsWords w (.slice ao k c) ws := by
  have hh := h
  rcases hh.2 with ⟨h0, h1⟩ | ⟨g, cap, cur, hv, _, _, h1, h2, _⟩
  · refine .inl ⟨h0, ?_⟩
    simp only [Value.slice.injEq] at h0
    exact List.length_eq_zero_iff.1 (by omega)
  · simp only [Value.slice.injEq] at hv
    obtain ⟨rfl, _, rfl⟩ := hv
    subst hl
    refine .inr ⟨g, c, rfl, h1, h2, fun i x hx => ?_⟩
    have hi : i < ws.length := (List.getElem?_eq_some_iff.1 hx).1
    obtain ⟨k1, k2⟩ := flatW_get ws i x hx
    exact ⟨(h.cellAt (i * 2) (by omega)).trans k1, (h.cellAt (i * 2 + 1) (by omega)).trans k2⟩
/-- Lines of words, in a row that the call owns. -/
structure LinesO (w : World) (base : Nat) (e : TypeId) (v : Value) (LL : List (List Wd)) (vs : List Value) : Prop where
  own : w.ownsRow base e 1 v LL.length vs
  row : ∀ (j : Nat) u L, vs[j]? = some u → LL[j]? = some L → IsWords w u L ∧ ∃ b, u.ownBlock = some b ∧ v.ownBlock ≠ some b ∧ b < w.heap.size ∧ base ≤ b
theorem LinesO.nil (w : World) (base : Nat) (e : TypeId) : LinesO w base e (.slice none 0 0) [] [] := ⟨World.ownsRow_nil _ _ _ _, fun j u L h => by simp at h⟩
theorem lines_keep {w w' : World} {base : Nat} {e : TypeId} {v : Value} {LL : List (List Wd)} {vs : List Value} (h : LinesO w base e v LL vs) {row : Option Nat} (q : w.grownBy w' row)
    (hv : ∀ b, row = some b → v.ownBlock ≠ some b) (hs : ∀ b, row = some b → ∀ u ∈ vs, u.ownBlock ≠ some b) : LinesO w' base e v LL vs := by
  refine ⟨h.own.kept (row := row) q ?_, fun j u L hu hL => ?_⟩
  · cases hb : v.ownBlock with
    | none => exact .inl rfl
    | some b => exact .inr fun e => hv b e.symm hb
  · obtain ⟨h1, b, h2, h3, h4, h5⟩ := h.row j u L hu hL
    exact ⟨h1.block fun b' hb' hlt => q.block b' hlt (fun e => hs b' e.symm u (List.mem_of_getElem? hu) hb'), b, h2, h3, Nat.lt_of_lt_of_le h4 q.size, h5⟩
theorem B.none {w w' : World} (q : B w w') : w.grownBy w' none := ⟨q.below.os, q.below.tape, q.below.output, q.below.size, fun k hk _ => q.below.block k hk⟩
theorem row_keep {w w' : World} {base : Nat} {e : TypeId} {size n : Nat} {v : Value} {xs : List Value} (h : w.ownsRow base e size v n xs) (q : B w w') : w'.ownsRow base e size v n xs :=
  h.kept (row := none) q.none (by cases v.ownBlock <;> simp)
theorem addz (b j : Nat) : (⟨b, 0, none⟩ : Addr).add j = ⟨b, j, none⟩ := by unfold Addr.add; split <;> simp_all
/-- Cells of a new block. -/
theorem newest {w : World} {cs : Array Value} {t : TypeId} {H : Nat} (hH : w.heap.size = H) : ∀ j u, cs.toList[j]? = some u → (w.alloc (.cells cs t)).cell? ((⟨H, 0, none⟩ : Addr).add j) = some u := by
  intro j u h
  rw [addz]
  subst hH
  rw [World.cell?_alloc_new]
  simpa using h
theorem info_of {P : Program} {t : TypeId} {z : Value} {s b : Nat} (h : (P.info? t).map (fun i => (i.zero, i.size, i.bytes)) = some (some z, s, b)) : ∃ i, P.info? t = some i ∧ i.zero = some z ∧ i.size = s ∧ i.bytes = b := by
  cases hi : P.info? t with
  | none => rw [hi] at h; cases h
  | some i => rw [hi] at h; simp at h; exact ⟨i, rfl, h.1, h.2.1, h.2.2⟩
theorem LinesO.keep {w w' : World} {base : Nat} {e : TypeId} {v : Value} {LL : List (List Wd)} {vs : List Value} (h : LinesO w base e v LL vs) (q : B w w') : LinesO w' base e v LL vs :=
  lines_keep h q.none (fun b hb => by cases hb) (fun b hb => by cases hb)
theorem LinesO.len {w : World} {base : Nat} {e : TypeId} {v : Value} {LL : List (List Wd)} {vs : List Value} (h : LinesO w base e v LL vs) : vs.length = LL.length := by
  have := h.own.1
  omega
/-- A line more. -/
theorem lines_more {w1 w2 : World} {base : Nat} {e : TypeId} {v : Value} {LL : List (List Wd)} {vs : List Value} {g cap : Nat} {u : Value} {L : List Wd} (h : LinesO w1 base e v LL vs)
    (own : w2.ownsRow base e 1 (.slice (some ⟨g, 0, none⟩) (LL.length + 1) cap) (LL.length + 1) (vs ++ [u])) (q : w1.grownBy w2 v.ownBlock) (hat : v.ownBlock = some g ∨ g = w1.heap.size)
    (hu : IsWords w1 u L) {b : Nat} (hb : u.ownBlock = some b) (hvb : v.ownBlock ≠ some b) (hlt : b < w1.heap.size) (hbase : base ≤ b) :
    LinesO w2 base e (.slice (some ⟨g, 0, none⟩) (LL ++ [L]).length cap) (LL ++ [L]) (vs ++ [u]) := by
  have hlen := h.len
  have key : ∀ (u : Value) (L : List Wd), IsWords w1 u L → (∃ b, u.ownBlock = some b ∧ v.ownBlock ≠ some b ∧ b < w1.heap.size ∧ base ≤ b) → IsWords w2 u L ∧ ∃ b, u.ownBlock = some b ∧ (Value.slice (some ⟨g, 0, none⟩) (LL ++ [L]).length cap).ownBlock ≠ some b ∧ b < w2.heap.size ∧ base ≤ b := by
    intro u L hu ⟨b, hb, hvb, hlt, hba⟩
    refine ⟨hu.block fun b' hb' hlt' => q.block b' hlt' (fun e => ?_), b, hb, fun e => ?_, Nat.lt_of_lt_of_le hlt q.size, hba⟩
    · rw [hb] at hb'
      cases hb'
      exact hvb e.symm
    · have hg : g = b := Option.some.inj e
      rcases hat with hat | hat
      · exact hvb (hat.trans (congrArg some hg))
      · omega
  have elen : (LL ++ [L]).length = LL.length + 1 := by simp
  refine ⟨elen ▸ own, fun j x M hx hM => ?_⟩
  rcases Nat.lt_or_ge j LL.length with hj | hj
  · rw [List.getElem?_append_left (by omega)] at hx hM
    obtain ⟨h1, h2⟩ := h.row j x M hx hM
    have := key x M h1 h2
    exact this
  · have hj' : j = LL.length := by
      have := (List.getElem?_eq_some_iff.1 hM).1
      simp at this
      omega
    subst hj'
    rw [List.getElem?_append_right (by omega)] at hx hM
    simp only [Nat.sub_self, List.getElem?_cons_zero, Option.some.injEq] at hM
    rw [show LL.length - vs.length = 0 by omega] at hx
    simp only [List.getElem?_cons_zero, Option.some.injEq] at hx
    subst hx hM
    exact key _ _ hu ⟨b, hb, hvb, hlt, hbase⟩
/-- Lines of words in memory. -/
def IsLines (w : World) (v : Value) (LL : List (List Wd)) : Prop :=
  (v = .slice none 0 0 ∧ LL = []) ∨
  ∃ g cap, v = .slice (some ⟨g, 0, none⟩) LL.length cap ∧ LL.length ≤ cap ∧ cap ≤ maxLen ∧ ∀ i L, LL[i]? = some L → ∃ u, w.cell? ⟨g, i, none⟩ = some u ∧ IsWords w u L
theorem IsLines.keep {w w' : World} {v : Value} {LL : List (List Wd)} (h : IsLines w v LL) (q : B w w') : IsLines w' v LL := by
  rcases h with h | ⟨g, cap, h1, h2, h3, h4⟩
  · exact .inl h
  · exact .inr ⟨g, cap, h1, h2, h3, fun i L hL => by obtain ⟨u, k1, k2⟩ := h4 i L hL; exact ⟨u, q.keep k1, k2.keep q⟩⟩
theorem IsLines.form {w : World} {v : Value} {LL : List (List Wd)} (h : IsLines w v LL) : ∃ ao cap, v = .slice ao LL.length cap := by
  rcases h with ⟨rfl, rfl⟩ | ⟨g, cap, rfl, _⟩ <;> exact ⟨_, _, rfl⟩
theorem LinesO.is {w : World} {base : Nat} {e : TypeId} {v : Value} {LL : List (List Wd)} {vs : List Value} (h : LinesO w base e v LL vs) : IsLines w v LL := by
  have hown := h.own
  rcases hown.2 with ⟨h0, h1⟩ | ⟨g, cap, cur, rfl, _, _, h1, h2, _⟩
  · exact .inl ⟨h0, List.length_eq_zero_iff.1 (by omega)⟩
  · refine .inr ⟨g, cap, rfl, h1, h2, fun i L hL => ?_⟩
    have hi : i < LL.length := (List.getElem?_eq_some_iff.1 hL).1
    have hlen := h.len
    have hu : vs[i]? = some vs[i] := List.getElem?_eq_getElem (by omega)
    exact ⟨_, (hown.cellAt i (by omega)).trans hu, (h.row i _ L hu hL).1⟩
end Go.Proofs.YtnmcgleanpdlmaaDoor

namespace Go.Proofs.YtnmcgleanpdlmaaDoor
open Go.RowKit
/-- A ware, a tip: a name, three numbers, a shape. -/
abbrev Wr := Rec
/-- A fill: a well's ware, row, column; how much. -/
structure Fl where
  n : ByteArray
  r : Int
  c : Int
  v : Int
structure Dk where
  ws : List Wr
  ts : List Wr
  fs : List Fl
def dk0 : Dk := ⟨[], [], []⟩
/-- Of a text: a well's name, row, column. -/
def wellL (l : List UInt8) : Option (List UInt8 × Nat × Nat) :=
  let n := l.takeWhile fun c => decide (c.toNat ≠ 46)
  match l.drop (n.length + 1) with
  | [] => none
  | r :: ds => if nameS (strB n) = true ∧ 65 ≤ r.toNat ∧ r.toNat ≤ 72 ∧ numOk (strB ds) = true ∧ 1 ≤ numV (strB ds) ∧ numV (strB ds) ≤ 12 then some (n, r.toNat - 65, numV (strB ds) - 1) else none
/-- A section more: of the last ware, of the last tip. -/
def moreR (w : Wr) (s : Sec) : Wr := { w with l := w.l ++ [s] }
def moreW : List Wr → Sec → List Wr
  | [], _ => []
  | [w], s => [moreR w s]
  | w :: ws, s => w :: moreW ws s
def Dk.add (d : Dk) (o : Nat) (s : Sec) : Dk := if o = 1 then { d with ws := moreW d.ws s } else if o = 2 then { d with ts := moreW d.ts s } else d
/-- A number's digits. -/
def decI (x : Int) : List UInt8 := Lib.decDigits x.toNat
/-- A well's text. -/
def wellT (n : ByteArray) (r c : Int) : List UInt8 := if nameS n = true ∧ 0 ≤ r ∧ r < 8 ∧ 0 ≤ c ∧ c < 12 then n.data.toList ++ [46, UInt8.ofNat (65 + r.toNat)] ++ decI (c + 1) else []
/-- A line's text: words with one blank between, a line feed behind. -/
def lineT : List (List UInt8) → List UInt8
  | [] => [10]
  | [w] => w ++ [10]
  | w :: ws => w ++ 32 :: lineT ws
end Go.Proofs.YtnmcgleanpdlmaaDoor

namespace Go.Proofs.YtnmcgleanpdlmaaDoor
open Go.RowKit
structure FlAt (w : World) (p : Addr) (f : Fl) : Prop where
  n : w.cell? p = some (.string f.n)
  r : w.cell? ⟨p.block, p.off + 1, none⟩ = some (.int .i64 f.r)
  c : w.cell? ⟨p.block, p.off + 2, none⟩ = some (.int .i64 f.c)
  v : w.cell? ⟨p.block, p.off + 3, none⟩ = some (.int .i64 f.v)
theorem FlAt.keepB {w w' : World} {p : Addr} {f : Fl} (h : FlAt w p f) (q : B w w') : FlAt w' p f := ⟨q.keep h.n, q.keep h.r, q.keep h.c, q.keep h.v⟩
def IsFls (w : World) (v : Value) (L : List Fl) : Prop :=
  (v = .slice none 0 0 ∧ L = []) ∨
  ∃ (a : Addr) (cap : Nat), v = .slice (some a) L.length cap ∧ L.length ≤ cap ∧ cap ≤ maxLen ∧ ∀ i f, L[i]? = some f → FlAt w (a.add (i * 4)) f
theorem IsFls.keepB {w w' : World} {v : Value} {L : List Fl} (h : IsFls w v L) (q : B w w') : IsFls w' v L := by
  rcases h with h | ⟨a, cap, h1, h2, h3, h4⟩
  · exact .inl h
  · exact .inr ⟨a, cap, h1, h2, h3, fun i f hf => (h4 i f hf).keepB q⟩
theorem IsFls.form {w : World} {v : Value} {L : List Fl} (h : IsFls w v L) : ∃ ao cap, v = .slice ao L.length cap := by
  rcases h with ⟨rfl, rfl⟩ | ⟨a, cap, rfl, _⟩
  · exact ⟨_, _, rfl⟩
  · exact ⟨_, _, rfl⟩
theorem IsFls.at_ {w : World} {v : Value} {L : List Fl} (h : IsFls w v L) {i : Nat} (hi : i < L.length) : ∃ (a : Addr) (cap : Nat), v = .slice (some a) L.length cap ∧ L.length ≤ cap ∧ cap ≤ maxLen ∧ FlAt w (a.add (i * 4)) L[i] := by
  rcases h with ⟨_, rfl⟩ | ⟨a, cap, h1, h2, h3, h4⟩
  · simp at hi
  · exact ⟨a, cap, h1, h2, h3, h4 i _ (List.getElem?_eq_getElem hi)⟩
/-- A deck in memory: its three slices. -/
structure IsDk (w : World) (wv tv fv : Value) (d : Dk) : Prop where
  ws : IsRecs w wv d.ws
  ts : IsRecs w tv d.ts
  fs : IsFls w fv d.fs
theorem IsDk.keepB {w w' : World} {wv tv fv : Value} {d : Dk} (h : IsDk w wv tv fv d) (q : B w w') : IsDk w' wv tv fv d := ⟨h.ws.keepB q, h.ts.keepB q, h.fs.keepB q⟩
theorem len_max {n : Nat} {cap : Nat} (h : n ≤ cap) (h2 : cap ≤ maxLen) : n ≤ 9223372036854775807 := by unfold maxLen at h2; omega
theorem IsRecs.len {w : World} {v : Value} {L : List Rec} (h : IsRecs w v L) : L.length ≤ 9223372036854775807 := by
  rcases h with ⟨_, rfl⟩ | ⟨a, cap, _, h2, h3, _⟩
  · simp
  · exact len_max h2 h3
theorem IsFls.len {w : World} {v : Value} {L : List Fl} (h : IsFls w v L) : L.length ≤ 9223372036854775807 := by
  rcases h with ⟨_, rfl⟩ | ⟨a, cap, _, h2, h3, _⟩
  · simp
  · exact len_max h2 h3
theorem secs_form {w : World} {v : Value} {l : List Sec} (h : IsSecs w v l) : ∃ ao cap, v = .slice ao l.length cap := by
  rcases h with ⟨rfl, rfl⟩ | ⟨a, cap, rfl, _⟩
  · exact ⟨_, _, rfl⟩
  · exact ⟨_, _, rfl⟩
end Go.Proofs.YtnmcgleanpdlmaaDoor

namespace Go.Proofs.YtnmcgleanpdlmaaDoor
open Go.RowKit
set_option linter.unusedVariables false
/-- A well: a ware's name, row, column. -/
structure Wp where
  n : ByteArray
  r : Int
  c : Int
/-- A step: its kind, a name, wells, a volume, a number. -/
structure Sp where
  k : Int
  n : ByteArray
  w : List Wp
  v : Int
  m : Int
def Wp.t (p : Wp) : List UInt8 := wellT p.n p.r p.c
def wellsOk (l : List Wp) : Bool := l.all fun p => !p.t.isEmpty
def stepK (s : Sp) : Bool :=
  if s.k = 0 then nameS s.n && decide (s.w.length = 0) && decide (s.v = 0) && decide (s.m = 0)
  else if s.k = 1 then (s.n.toList == []) && decide (s.w.length = 0) && decide (s.v = 0) && (decide (s.m = 0) || decide (s.m = 1))
  else if s.k = 5 then (s.n.toList == []) && decide (s.w.length = 1) && inB s.v 1 20000000 && inB s.m 1 20
  else if s.k = 2 ∨ s.k = 3 ∨ s.k = 4 ∨ s.k = 6 then (s.n.toList == []) && decide (s.m = 0) && inB s.v 1 20000000 && decide (2 ≤ s.w.length) && decide (s.w.length ≤ 96) && (decide (s.k ≠ 2) || decide (s.w.length = 2))
  else false
/-- Which steps may be. -/
def stepOk (s : Sp) : Bool := wellsOk s.w && stepK s
def stepsOk (l : List Sp) : Bool := decide (l.length ≤ 200) && l.all stepOk
def kUse : List UInt8 := [117, 115, 101]
def kFresh : List UInt8 := [102, 114, 101, 115, 104]
def kTransfer : List UInt8 := [116, 114, 97, 110, 115, 102, 101, 114]
def kSpread : List UInt8 := [115, 112, 114, 101, 97, 100]
def kGather : List UInt8 := [103, 97, 116, 104, 101, 114]
def kMix : List UInt8 := [109, 105, 120]
def kDilute : List UInt8 := [100, 105, 108, 117, 116, 101]
def kOnce : List UInt8 := [111, 110, 99, 101]
def kEach : List UInt8 := [101, 97, 99, 104]
/-- A kind's word. -/
def kindW (k : Int) : List UInt8 := if k = 0 then kUse else if k = 1 then kFresh else if k = 2 then kTransfer else if k = 3 then kSpread else if k = 4 then kGather else if k = 5 then kMix else kDilute
/-- The words behind it. -/
def stepW (s : Sp) : List (List UInt8) :=
  if s.k = 0 then [s.n.data.toList]
  else if s.k = 1 then [if s.m = 0 then kOnce else kEach]
  else if s.k = 6 then decI s.v :: s.w.map Wp.t
  else if s.k = 2 then s.w.map Wp.t ++ [decI s.v]
  else if s.k = 5 then s.w.map Wp.t ++ [decI s.v, decI s.m]
  else (s.w.take 1).map Wp.t ++ [decI s.v] ++ (s.w.drop 1).map Wp.t
def stepL (s : Sp) : List (List UInt8) := kindW s.k :: stepW s
def stepsT (l : List Sp) : List UInt8 := if stepsOk l then l.flatMap fun s => lineT (stepL s) else []
structure WpAt (w : World) (p : Addr) (f : Wp) : Prop where
  n : w.cell? p = some (.string f.n)
  r : w.cell? ⟨p.block, p.off + 1, none⟩ = some (.int .i64 f.r)
  c : w.cell? ⟨p.block, p.off + 2, none⟩ = some (.int .i64 f.c)
theorem WpAt.keepB {w w' : World} {p : Addr} {f : Wp} (h : WpAt w p f) (q : B w w') : WpAt w' p f := ⟨q.keep h.n, q.keep h.r, q.keep h.c⟩
/-- Wells in memory. -/
def IsWps (w : World) (v : Value) (L : List Wp) : Prop :=
  (v = .slice none 0 0 ∧ L = []) ∨
  ∃ (a : Addr) (cap : Nat), v = .slice (some a) L.length cap ∧ L.length ≤ cap ∧ cap ≤ maxLen ∧ ∀ i f, L[i]? = some f → WpAt w (a.add (i * 3)) f
theorem IsWps.keepB {w w' : World} {v : Value} {L : List Wp} (h : IsWps w v L) (q : B w w') : IsWps w' v L := by
  rcases h with h | ⟨a, cap, h1, h2, h3, h4⟩
  · exact .inl h
  · exact .inr ⟨a, cap, h1, h2, h3, fun i f hf => (h4 i f hf).keepB q⟩
theorem IsWps.form {w : World} {v : Value} {L : List Wp} (h : IsWps w v L) : ∃ ao cap, v = .slice ao L.length cap := by
  rcases h with ⟨rfl, rfl⟩ | ⟨a, cap, rfl, _⟩
  · exact ⟨_, _, rfl⟩
  · exact ⟨_, _, rfl⟩
theorem IsWps.at_ {w : World} {v : Value} {L : List Wp} (h : IsWps w v L) {i : Nat} (hi : i < L.length) : ∃ (a : Addr) (cap : Nat), v = .slice (some a) L.length cap ∧ L.length ≤ cap ∧ cap ≤ maxLen ∧ WpAt w (a.add (i * 3)) L[i] := by
  rcases h with ⟨_, rfl⟩ | ⟨a, cap, h1, h2, h3, h4⟩
  · simp at hi
  · exact ⟨a, cap, h1, h2, h3, h4 i _ (List.getElem?_eq_getElem hi)⟩
theorem IsWps.len {w : World} {v : Value} {L : List Wp} (h : IsWps w v L) : L.length ≤ 9223372036854775807 := by
  rcases h with ⟨_, rfl⟩ | ⟨a, cap, _, h2, h3, _⟩
  · simp
  · exact len_max h2 h3
/-- A step in memory. -/
structure SpAt (w : World) (p : Addr) (s : Sp) : Prop where
  k : w.cell? p = some (.int .i64 s.k)
  n : w.cell? ⟨p.block, p.off + 1, none⟩ = some (.string s.n)
  ws : ∃ v, w.cell? ⟨p.block, p.off + 2, none⟩ = some v ∧ IsWps w v s.w
  v : w.cell? ⟨p.block, p.off + 3, none⟩ = some (.int .i64 s.v)
  m : w.cell? ⟨p.block, p.off + 4, none⟩ = some (.int .i64 s.m)
theorem SpAt.keepB {w w' : World} {p : Addr} {s : Sp} (h : SpAt w p s) (q : B w w') : SpAt w' p s :=
  ⟨q.keep h.k, q.keep h.n, let ⟨v, h1, h2⟩ := h.ws; ⟨v, q.keep h1, h2.keepB q⟩, q.keep h.v, q.keep h.m⟩
def IsSps (w : World) (v : Value) (L : List Sp) : Prop :=
  (v = .slice none 0 0 ∧ L = []) ∨
  ∃ (a : Addr) (cap : Nat), v = .slice (some a) L.length cap ∧ L.length ≤ cap ∧ cap ≤ maxLen ∧ ∀ i f, L[i]? = some f → SpAt w (a.add (i * 5)) f
theorem IsSps.keepB {w w' : World} {v : Value} {L : List Sp} (h : IsSps w v L) (q : B w w') : IsSps w' v L := by
  rcases h with h | ⟨a, cap, h1, h2, h3, h4⟩
  · exact .inl h
  · exact .inr ⟨a, cap, h1, h2, h3, fun i f hf => (h4 i f hf).keepB q⟩
theorem IsSps.form {w : World} {v : Value} {L : List Sp} (h : IsSps w v L) : ∃ ao cap, v = .slice ao L.length cap := by
  rcases h with ⟨rfl, rfl⟩ | ⟨a, cap, rfl, _⟩
  · exact ⟨_, _, rfl⟩
  · exact ⟨_, _, rfl⟩
theorem IsSps.at_ {w : World} {v : Value} {L : List Sp} (h : IsSps w v L) {i : Nat} (hi : i < L.length) : ∃ (a : Addr) (cap : Nat), v = .slice (some a) L.length cap ∧ L.length ≤ cap ∧ cap ≤ maxLen ∧ SpAt w (a.add (i * 5)) L[i] := by
  rcases h with ⟨_, rfl⟩ | ⟨a, cap, h1, h2, h3, h4⟩
  · simp at hi
  · exact ⟨a, cap, h1, h2, h3, h4 i _ (List.getElem?_eq_getElem hi)⟩
theorem IsSps.len {w : World} {v : Value} {L : List Sp} (h : IsSps w v L) : L.length ≤ 9223372036854775807 := by
  rcases h with ⟨_, rfl⟩ | ⟨a, cap, _, h2, h3, _⟩
  · simp
  · exact len_max h2 h3
end Go.Proofs.YtnmcgleanpdlmaaDoor

namespace Go.Proofs.YtnmcgleanpdlmaaDoor
open Go.RowKit
set_option linter.unusedVariables false
def Sp.cells (s : Sp) (u : Value) : List Value := [.int .i64 s.k, .string s.n, u, .int .i64 s.v, .int .i64 s.m]
def flatSp : List Sp → List Value → List Value
  | s :: SS, u :: vs => s.cells u ++ flatSp SS vs
  | _, _ => []
theorem flatSp_snoc : ∀ (SS : List Sp) (vs : List Value) (s : Sp) (u : Value), vs.length = SS.length → flatSp (SS ++ [s]) (vs ++ [u]) = flatSp SS vs ++ s.cells u
  | [], [], s, u, _ => by simp [flatSp]
  | [], _ :: _, s, u, h => by simp at h
  | _ :: _, [], s, u, h => by simp at h
  | t :: SS, v :: vs, s, u, h => by
    show t.cells v ++ flatSp (SS ++ [s]) (vs ++ [u]) = _
    rw [flatSp_snoc SS vs s u (by simpa using h), ← List.append_assoc]
    rfl
theorem flatSp_len : ∀ (SS : List Sp) (vs : List Value), vs.length = SS.length → (flatSp SS vs).length = SS.length * 5
  | [], [], _ => rfl
  | [], _ :: _, h => by simp at h
  | _ :: _, [], h => by simp at h
  | t :: SS, v :: vs, h => by
    have := flatSp_len SS vs (by simpa using h)
    show (t.cells v ++ flatSp SS vs).length = _
    rw [List.length_append, this, List.length_cons]
    show 5 + _ = _
    omega
theorem flatSp_get : ∀ (SS : List Sp) (vs : List Value) (i k : Nat) (s : Sp) (u : Value), vs.length = SS.length → SS[i]? = some s → vs[i]? = some u → k < 5 → (flatSp SS vs)[i * 5 + k]? = (s.cells u)[k]?
  | [], _, i, k, s, u, _, h, _, _ => by simp at h
  | _ :: _, [], i, k, s, u, h, _, _, _ => by simp at h
  | t :: SS, v :: vs, 0, k, s, u, h, h1, h2, hk => by
    simp only [List.getElem?_cons_zero, Option.some.injEq] at h1 h2
    subst h1 h2
    show (t.cells v ++ flatSp SS vs)[0 * 5 + k]? = _
    rw [List.getElem?_append_left (by show 0 * 5 + k < 5; omega), Nat.zero_mul, Nat.zero_add]
  | t :: SS, v :: vs, i + 1, k, s, u, h, h1, h2, hk => by
    simp only [List.getElem?_cons_succ] at h1 h2
    show (t.cells v ++ flatSp SS vs)[(i + 1) * 5 + k]? = _
    rw [List.getElem?_append_right (by show 5 ≤ (i + 1) * 5 + k; omega), show (i + 1) * 5 + k - (t.cells v).length = i * 5 + k by show (i + 1) * 5 + k - 5 = _; omega]
    exact flatSp_get SS vs i k s u (by simpa using h) h1 h2 hk
theorem IsWps.block {w w' : World} {v : Value} {L : List Wp} (h : IsWps w v L) (hb : ∀ b, v.ownBlock = some b → b < w.heap.size → w'.heap[b]? = w.heap[b]?) : IsWps w' v L := by
  rcases h with h | ⟨a, cap, rfl, h2, h3, h4⟩
  · exact .inl h
  · refine .inr ⟨a, cap, rfl, h2, h3, fun i f hf => ?_⟩
    obtain ⟨k1, k2, k3⟩ := h4 i f hf
    have hlt := World.block_lt_of_cell? w _ k1
    have hab : (a.add (i * 3)).block = a.block := by unfold Addr.add; split <;> rfl
    rw [hab] at hlt
    have e := hb a.block rfl hlt
    have e' : w'.heap[(a.add (i * 3)).block]? = w.heap[(a.add (i * 3)).block]? := by rw [hab]; exact e
    exact ⟨(World.cell?_of_block (a := a.add (i * 3)) e').trans k1, (World.cell?_of_block (a := ⟨(a.add (i * 3)).block, (a.add (i * 3)).off + 1, none⟩) e').trans k2, (World.cell?_of_block (a := ⟨(a.add (i * 3)).block, (a.add (i * 3)).off + 2, none⟩) e').trans k3⟩
/-- Steps in a row that the call owns; their wells lie elsewhere. -/
structure StepsO (w : World) (base : Nat) (e : TypeId) (v : Value) (SS : List Sp) (vs : List Value) : Prop where
  len : vs.length = SS.length
  own : w.ownsRow base e 5 v SS.length (flatSp SS vs)
  row : ∀ (j : Nat) u s, vs[j]? = some u → SS[j]? = some s → IsWps w u s.w ∧ ∀ b, u.ownBlock = some b → v.ownBlock ≠ some b ∧ b < w.heap.size
theorem StepsO.keep {w w' : World} {base : Nat} {e : TypeId} {v : Value} {SS : List Sp} {vs : List Value} (h : StepsO w base e v SS vs) (q : B w w') : StepsO w' base e v SS vs :=
  ⟨h.len, row_keep h.own q, fun j u s hu hs => by
    obtain ⟨h1, h2⟩ := h.row j u s hu hs
    exact ⟨h1.keepB q, fun b hb => ⟨(h2 b hb).1, Nat.lt_of_lt_of_le (h2 b hb).2 q.below.size⟩⟩⟩
/-- A step more. -/
theorem steps_more {w1 w2 : World} {base : Nat} {e : TypeId} {v : Value} {SS : List Sp} {vs : List Value} {g cap : Nat} {u : Value} {s : Sp} (h : StepsO w1 base e v SS vs)
    (own : w2.ownsRow base e 5 (.slice (some ⟨g, 0, none⟩) (SS.length + 1) cap) (SS.length + 1) (flatSp SS vs ++ s.cells u)) (q : w1.grownBy w2 v.ownBlock) (hat : v.ownBlock = some g ∨ g = w1.heap.size)
    (hu : IsWps w1 u s.w) (hb : ∀ b, u.ownBlock = some b → v.ownBlock ≠ some b ∧ b < w1.heap.size) :
    StepsO w2 base e (.slice (some ⟨g, 0, none⟩) (SS ++ [s]).length cap) (SS ++ [s]) (vs ++ [u]) := by
  have hlen := h.len
  have key : ∀ (u : Value) (L : List Wp), IsWps w1 u L → (∀ b, u.ownBlock = some b → v.ownBlock ≠ some b ∧ b < w1.heap.size) → IsWps w2 u L ∧ ∀ b, u.ownBlock = some b → (Value.slice (some ⟨g, 0, none⟩) (SS ++ [s]).length cap).ownBlock ≠ some b ∧ b < w2.heap.size := by
    intro u L hu hh
    refine ⟨hu.block fun b' hb' hlt' => q.block b' hlt' (fun e => (hh b' hb').1 e.symm), fun b hb => ⟨fun e => ?_, Nat.lt_of_lt_of_le (hh b hb).2 q.size⟩⟩
    have hg : g = b := Option.some.inj e
    rcases hat with hat | hat
    · exact (hh b hb).1 (hat.trans (congrArg some hg))
    · have := (hh b hb).2
      omega
  have elen : (SS ++ [s]).length = SS.length + 1 := by simp
  refine ⟨by simp [hlen], ?_, fun j x t hx ht => ?_⟩
  · rw [flatSp_snoc _ _ _ _ hlen, elen]
    exact own
  rcases Nat.lt_or_ge j SS.length with hj | hj
  · rw [List.getElem?_append_left (by omega)] at hx ht
    obtain ⟨h1, h2⟩ := h.row j x t hx ht
    exact key x _ h1 h2
  · have hj' : j = SS.length := by
      have := (List.getElem?_eq_some_iff.1 ht).1
      simp at this
      omega
    subst hj'
    rw [List.getElem?_append_right (by omega)] at hx ht
    simp only [Nat.sub_self, List.getElem?_cons_zero, Option.some.injEq] at ht
    rw [show SS.length - vs.length = 0 by omega] at hx
    simp only [List.getElem?_cons_zero, Option.some.injEq] at hx
    subst hx ht
    exact key _ _ hu hb
theorem StepsO.is {w : World} {base : Nat} {e : TypeId} {v : Value} {SS : List Sp} {vs : List Value} (h : StepsO w base e v SS vs) : IsSps w v SS := by
  have hown := h.own
  rcases hown.2 with ⟨h0, h1⟩ | ⟨g, cap, cur, rfl, _, _, h1, h2, _⟩
  · exact .inl ⟨h0, List.length_eq_zero_iff.1 (by omega)⟩
  · refine .inr ⟨⟨g, 0, none⟩, cap, rfl, h1, h2, fun i s hs => ?_⟩
    have hi : i < SS.length := (List.getElem?_eq_some_iff.1 hs).1
    obtain ⟨u, hu⟩ : ∃ u, vs[i]? = some u := ⟨_, List.getElem?_eq_getElem (by rw [h.len]; exact hi)⟩
    have hc : ∀ k, k < 5 → w.cell? ⟨g, i * 5 + k, none⟩ = (s.cells u)[k]? := fun k hk => by
      rw [h.own.cellAt (i * 5 + k) (by omega)]
      exact flatSp_get SS vs i k s u h.len hs hu hk
    have ha : (⟨g, 0, none⟩ : Addr).add (i * 5) = ⟨g, i * 5, none⟩ := addz g (i * 5)
    rw [ha]
    exact ⟨hc 0 (by omega), hc 1 (by omega), ⟨u, hc 2 (by omega), (h.row i u s hu hs).1⟩, hc 3 (by omega), hc 4 (by omega)⟩
/-- Three wells in a block. -/
theorem wps_three {w : World} {g : Nat} {p1 p2 p3 : Wp} {t : TypeId} {fz : Nat × Nat} (h : w.heap[g]? = some (.cells #[.string p1.n, .int .i64 p1.r, .int .i64 p1.c, .string p2.n, .int .i64 p2.r, .int .i64 p2.c, .string p3.n, .int .i64 p3.r, .int .i64 p3.c] t fz)) {n : Nat} (h1 : 1 ≤ n) (h3 : n ≤ 3) :
    IsWps w (.slice (some ⟨g, 0, none⟩) n 3) ([p1, p2, p3].take n) := by
  refine .inr ⟨⟨g, 0, none⟩, 3, by rw [List.length_take]; simp; omega, by rw [List.length_take]; simp; omega, by unfold maxLen; omega, fun i f hf => ?_⟩
  have hi : i < n := by
    have := (List.getElem?_eq_some_iff.1 hf).1
    rw [List.length_take] at this
    omega
  rw [List.getElem?_take_of_lt hi] at hf
  have hc : ∀ k, w.cell? ⟨g, k, none⟩ = _ := fun k => obj_cell h k
  rw [addz]
  match i, hf with
  | 0, hf => simp at hf; subst hf; exact ⟨hc 0, hc 1, hc 2⟩
  | 1, hf => simp at hf; subst hf; exact ⟨hc 3, hc 4, hc 5⟩
  | 2, hf => simp at hf; subst hf; exact ⟨hc 6, hc 7, hc 8⟩
  | i + 3, hf => omega
end Go.Proofs.YtnmcgleanpdlmaaDoor

namespace Go.Proofs.YtnmcgleanpdlmaaDoor
open Go.RowKit
set_option linter.unusedVariables false
/-- A row of cells that comes in: nil, or cells from an address on. -/
def RowIn (w : World) (v : Value) (m : Nat) (news : List Value) : Prop :=
  (v = .slice none 0 0 ∧ m = 0 ∧ news = []) ∨ ∃ (ad : Addr) (c : Nat), v = .slice (some ad) m c ∧ ∀ j u, news[j]? = some u → w.cell? (ad.add j) = some u
theorem RowIn.keepB {w w' : World} {v : Value} {m : Nat} {news : List Value} (h : RowIn w v m news) (q : B w w') : RowIn w' v m news := by
  rcases h with h | ⟨ad, c, h1, h2⟩
  · exact .inl h
  · exact .inr ⟨ad, c, h1, fun j u hj => q.keep (h2 j u hj)⟩
theorem RowIn.form {w : World} {v : Value} {m : Nat} {news : List Value} (h : RowIn w v m news) : ∃ ao cap, v = .slice ao m cap := by
  rcases h with ⟨rfl, rfl, _⟩ | ⟨ad, c, rfl, _⟩
  · exact ⟨_, _, rfl⟩
  · exact ⟨_, _, rfl⟩
theorem ownsRow_form {w : World} {base : Nat} {e : TypeId} {size n : Nat} {v : Value} {xs : List Value} (h : w.ownsRow base e size v n xs) : ∃ o c, v = .slice o n c := by
  rcases h.2 with ⟨rfl, rfl⟩ | ⟨g, cap, cur, rfl, _⟩
  · exact ⟨_, _, rfl⟩
  · exact ⟨_, _, rfl⟩
theorem copy_run {P : Program} (w : World) (t ty e : TypeId) (i : TypeInfo) (z : Value) (size bytes : Nat) (ht : P.underlying t = some (.slice e)) (hi : P.info? e = some i) (hz : i.zero = some z)
    (hsize : i.size = size) (hby : i.bytes = bytes) (hzs : z.cells.size = size) (hsz : 0 < size) (v : Value) (m : Nat) (news : List Value) (hv : RowIn w v m news) (hl : news.length = m * size) (h1 : ∀ u ∈ news, u.oneCell' = true)
    (h63 : m ≤ maxLen) (hbytes : m * bytes ≤ 140737488355328) :
    ∃ o c w', (Builtin.append_ #[t, t] ty #[.slice none 0 0, v]).run P w = .ok (.slice o m c) w' ∧ w'.ownsRow w.heap.size e size (.slice o m c) m news ∧ B w w' := by
  rcases hv with ⟨rfl, rfl, rfl⟩ | ⟨ad, c, rfl, hc⟩
  · exact ⟨none, 0, w, run_append_owned_none w w.heap.size t ty e i size ht hi _ 0 [] (World.ownsRow_nil _ _ _ _), World.ownsRow_nil _ _ _ _, B.refl w⟩
  · obtain ⟨v', w', hr, h2, h3, _, h5⟩ := run_append_own_at (P := P) w w.heap.size t ty e i z size bytes ht hi hz hsize hby hzs hsz (.slice none 0 0) 0 [] (World.ownsRow_nil _ _ _ _) ad m c news hl hc h1 (by omega) (by simpa using hbytes) (Nat.le_refl _)
    simp only [Nat.zero_add, List.nil_append] at h2
    obtain ⟨o, c', rfl⟩ := ownsRow_form h2
    exact ⟨o, c', w', hr, h2, (B.refl w).grownBy h3 (fun _ h => by cases h)⟩
theorem wpList_copy {P : Program} (w : World) {ops : Array Oper} {rest : List Oper} {o : Oper} {a : Act} {Q : Exit → Act → World → Prop} (hgd : o.guard = none) (s x : Operand) (t : TypeId)
    (ho : o.op = .call { callee := .builtin .append, args := #[s, x], argTypes := #[t, t] })
    (e : TypeId) (i : TypeInfo) (z : Value) (size bytes : Nat) (ht : P.underlying t = some (.slice e)) (hi : P.info? e = some i) (hz : i.zero = some z)
    (hsize : i.size = size) (hby : i.bytes = bytes) (hzs : z.cells.size = size) (hsz : 0 < size) (v : Value) (hs : a.eval s = .slice none 0 0) (hx : a.eval x = v) (m : Nat) (news : List Value) (hv : RowIn w v m news) (hl : news.length = m * size) (h1 : ∀ u ∈ news, u.oneCell' = true)
    (h63 : m ≤ maxLen) (hbytes : m * bytes ≤ 140737488355328)
    (h : ∀ oN cN w', w'.ownsRow w.heap.size e size (.slice oN m cN) m news → B w w' → wpList P ops Q rest (a.put o.dst (.slice oN m cN)) w') : wpList P ops Q (o :: rest) a w :=
  wpList_plain hgd fun K hK => by
    obtain ⟨oN, cN, w', hr, h2, h3⟩ := copy_run (P := P) w t o.type e i z size bytes ht hi hz hsize hby hzs hsz v m news hv hl h1 h63 hbytes
    unfold Oper.wp execOp
    simp only [ho, resolve, invoke, builtin, Sem.run_bind, Sem.run_pure, Result.andThen_ok, List.map_toArray, List.map_cons, List.map_nil, hs, hx, hr]
    exact hK _ _ (h oN cN w' h2 h3)
end Go.Proofs.YtnmcgleanpdlmaaDoor

namespace Go.Proofs.YtnmcgleanpdlmaaDoor
open Go.RowKit
set_option linter.unusedVariables false
theorem IsWps.lt {w : World} {u : Value} {L : List Wp} (h : IsWps w u L) (hn : L ≠ []) {b : Nat} (hb : u.ownBlock = some b) : b < w.heap.size := by
  rcases h with ⟨_, h⟩ | ⟨a, cap, rfl, h2, h3, h4⟩
  · exact absurd h hn
  · obtain ⟨f, L', rfl⟩ := List.exists_cons_of_ne_nil hn
    have k := (h4 0 f rfl).n
    have hlt := World.block_lt_of_cell? w _ k
    have hab : (a.add (0 * 3)).block = a.block := by unfold Addr.add; split <;> rfl
    rw [hab] at hlt
    have : a.block = b := Option.some.inj hb
    omega
/-- Steps in a row that the call owns; the wells of those that have some lie elsewhere. -/
structure SpO (w : World) (base : Nat) (e : TypeId) (v : Value) (SS : List Sp) (vs : List Value) : Prop where
  len : vs.length = SS.length
  own : w.ownsRow base e 5 v SS.length (flatSp SS vs)
  row : ∀ (j : Nat) u s, vs[j]? = some u → SS[j]? = some s → IsWps w u s.w ∧ (s.w ≠ [] → v.ownBlock ≠ u.ownBlock)
theorem SpO.keep {w w' : World} {base : Nat} {e : TypeId} {v : Value} {SS : List Sp} {vs : List Value} (h : SpO w base e v SS vs) (q : B w w') : SpO w' base e v SS vs :=
  ⟨h.len, row_keep h.own q, fun j u s hu hs => ⟨(h.row j u s hu hs).1.keepB q, (h.row j u s hu hs).2⟩⟩
theorem addA (p : Addr) {i j : Nat} (h : 0 < j) : p.add (i + j) = ⟨(p.add i).block, (p.add i).off + j, none⟩ := by
  unfold Addr.add
  rw [if_neg (by omega)]
  split
  · rename_i h0
    subst h0
    simp
  · simp [Nat.add_assoc]
theorem IsSps.rowIn {w : World} {v : Value} {L : List Sp} (h : IsSps w v L) : ∃ vs, vs.length = L.length ∧ RowIn w v L.length (flatSp L vs) ∧ (∀ u ∈ flatSp L vs, u.oneCell' = true) ∧ ∀ (i : Nat) u s, vs[i]? = some u → L[i]? = some s → IsWps w u s.w := by
  have hone : ∀ (L : List Sp) (vs : List Value), (∀ u ∈ vs, u.oneCell' = true) → ∀ u ∈ flatSp L vs, u.oneCell' = true := by
    intro L
    induction L with
    | nil => intro vs _ u hu; simp [flatSp] at hu
    | cons s L ih =>
      intro vs hv u hu
      cases vs with
      | nil => simp [flatSp] at hu
      | cons x vs =>
        rcases List.mem_append.1 (show u ∈ s.cells x ++ flatSp L vs from hu) with hu | hu
        · simp only [Sp.cells, List.mem_cons, List.not_mem_nil, or_false] at hu
          rcases hu with rfl | rfl | rfl | rfl | rfl
          · rfl
          · rfl
          · exact hv _ (by simp)
          · rfl
          · rfl
        · exact ih vs (fun y hy => hv y (by simp [hy])) u hu
  rcases h with ⟨rfl, rfl⟩ | ⟨a, cap, rfl, h2, h3, h4⟩
  · exact ⟨[], rfl, .inl ⟨rfl, rfl, rfl⟩, by simp [flatSp], fun i u L h => by simp at h⟩
  · have key : ∀ i s, L[i]? = some s → ∃ u, w.cell? ⟨(a.add (i * 5)).block, (a.add (i * 5)).off + 2, none⟩ = some u ∧ IsWps w u s.w := fun i s hi => (h4 i s hi).ws
    have hvl : ((List.range L.length).map fun i => (w.cell? ⟨(a.add (i * 5)).block, (a.add (i * 5)).off + 2, none⟩).getD (.int .i64 0)).length = L.length := by simp
    have hvg : ∀ (i : Nat) s, L[i]? = some s → ∃ u, ((List.range L.length).map fun i => (w.cell? ⟨(a.add (i * 5)).block, (a.add (i * 5)).off + 2, none⟩).getD (.int .i64 0))[i]? = some u ∧ w.cell? ⟨(a.add (i * 5)).block, (a.add (i * 5)).off + 2, none⟩ = some u ∧ IsWps w u s.w := fun i s hi => by
      obtain ⟨u, k1, k2⟩ := key i s hi
      have hlt := (List.getElem?_eq_some_iff.1 hi).1
      exact ⟨u, by rw [List.getElem?_map, List.getElem?_range hlt]; simp [k1], k1, k2⟩
    generalize ((List.range L.length).map fun i => (w.cell? ⟨(a.add (i * 5)).block, (a.add (i * 5)).off + 2, none⟩).getD (.int .i64 0)) = vs at *
    refine ⟨vs, hvl, .inr ⟨a, cap, rfl, fun j u hj => ?_⟩, hone L vs fun u hu => ?_, fun i u s hu hs => ?_⟩
    · have hlt : j < (flatSp L vs).length := (List.getElem?_eq_some_iff.1 hj).1
      rw [flatSp_len _ _ hvl] at hlt
      obtain ⟨i, r, rfl, hr⟩ : ∃ i r, j = i * 5 + r ∧ r < 5 := ⟨j / 5, j % 5, by omega, by omega⟩
      have hg := List.getElem?_eq_getElem (show i < L.length by omega)
      obtain ⟨x, e1, e2, _⟩ := hvg i _ hg
      have hS := h4 i _ hg
      rw [flatSp_get L vs i r _ x hvl hg e1 hr] at hj
      obtain rfl | rfl | rfl | rfl | rfl : r = 0 ∨ r = 1 ∨ r = 2 ∨ r = 3 ∨ r = 4 := by omega
      · exact hS.k.trans hj
      · rw [addA _ (by omega)]; exact hS.n.trans hj
      · rw [addA _ (by omega)]; exact e2.trans hj
      · rw [addA _ (by omega)]; exact hS.v.trans hj
      · rw [addA _ (by omega)]; exact hS.m.trans hj
    · obtain ⟨i, hi⟩ := List.getElem?_of_mem hu
      have hlt := (List.getElem?_eq_some_iff.1 hi).1
      obtain ⟨x, e1, _, e3⟩ := hvg i _ (List.getElem?_eq_getElem (show i < L.length by omega))
      rw [hi] at e1
      cases e1
      obtain ⟨o, c, rfl⟩ := e3.form
      rfl
    · obtain ⟨x, e1, _, e3⟩ := hvg i s hs
      rw [hu] at e1
      cases e1
      exact e3
/-- A copy. -/
theorem SpO.copy {w w' : World} {e : TypeId} {ov : Value} {L : List Sp} {vs : List Value} (hl : vs.length = L.length) (hr : ∀ (i : Nat) u s, vs[i]? = some u → L[i]? = some s → IsWps w u s.w) (ho : w'.ownsRow w.heap.size e 5 ov L.length (flatSp L vs)) (q : B w w') : SpO w' w.heap.size e ov L vs := by
  refine ⟨hl, ho, fun j u s hu hs => ⟨(hr j u s hu hs).keepB q, fun hn e => ?_⟩⟩
  have hk := hr j u s hu hs
  cases hb : u.ownBlock with
  | none =>
    rcases hk with ⟨rfl, h⟩ | ⟨a, cap, rfl, _⟩
    · exact hn h
    · cases hb
  | some b =>
    have h1 := hk.lt hn hb
    have h2 := (ho.lt b (by rw [e, hb])).1
    omega
theorem flatSp_set : ∀ (SS : List Sp) (vs : List Value) (j c : Nat) (s s' : Sp) (u u' x : Value), vs.length = SS.length → SS[j]? = some s → vs[j]? = some u → c < 5 → (s.cells u).set c x = s'.cells u' → (flatSp SS vs).set (j * 5 + c) x = flatSp (SS.set j s') (vs.set j u')
  | [], _, j, c, s, s', u, u', x, _, h, _, _, _ => by simp at h
  | _ :: _, [], j, c, s, s', u, u', x, h, _, _, _, _ => by simp at h
  | t :: SS, v :: vs, 0, c, s, s', u, u', x, h, h1, h2, hc, he => by
    simp only [List.getElem?_cons_zero, Option.some.injEq] at h1 h2
    subst h1 h2
    show (t.cells v ++ flatSp SS vs).set (0 * 5 + c) x = s'.cells u' ++ flatSp SS vs
    rw [Nat.zero_mul, Nat.zero_add, List.set_append_left _ _ (by show c < 5; omega), he]
  | t :: SS, v :: vs, j + 1, c, s, s', u, u', x, h, h1, h2, hc, he => by
    simp only [List.getElem?_cons_succ] at h1 h2
    show (t.cells v ++ flatSp SS vs).set ((j + 1) * 5 + c) x = t.cells v ++ flatSp (SS.set j s') (vs.set j u')
    rw [List.set_append_right _ _ (by show 5 ≤ _; omega), show (j + 1) * 5 + c - (t.cells v).length = j * 5 + c by show (j + 1) * 5 + c - 5 = _; omega, flatSp_set SS vs j c s s' u u' x (by simpa using h) h1 h2 hc he]
/-- A cell of a step stored. -/
theorem SpO.set {w : World} {base : Nat} {e : TypeId} {g n cap : Nat} {SS : List Sp} {vs : List Value} (h : SpO w base e (.slice (some ⟨g, 0, none⟩) n cap) SS vs) (hn : n = SS.length) {j c : Nat} {s s' : Sp} {u u' x : Value} (hs : SS[j]? = some s) (hu : vs[j]? = some u) (hc : c < 5) (he : (s.cells u).set c x = s'.cells u')
    (hw : IsWps w u' s'.w) (hb : s'.w ≠ [] → some g ≠ u'.ownBlock) : SpO (w.setCell ⟨g, j * 5 + c, none⟩ x) base e (.slice (some ⟨g, 0, none⟩) n cap) (SS.set j s') (vs.set j u') := by
  subst hn
  obtain ⟨r1, _⟩ := h.own.stored (j * 5 + c) x
  rw [flatSp_set SS vs j c s s' u u' x h.len hs hu hc he] at r1
  refine ⟨by rw [List.length_set, List.length_set, h.len], by rw [List.length_set]; exact r1, fun i y t hy ht => ?_⟩
  have keepW : ∀ (y : Value) (L : List Wp), IsWps w y L → (L ≠ [] → some g ≠ y.ownBlock) → IsWps (w.setCell ⟨g, j * 5 + c, none⟩ x) y L := fun y L hy hne => by
    by_cases hL : L = []
    · subst hL
      rcases hy with hy | ⟨a, cp, rfl, h2, h3, _⟩
      · exact .inl hy
      · exact .inr ⟨a, cp, rfl, h2, h3, fun i f hf => by simp at hf⟩
    · exact hy.block fun b hb' _ => Below.heap_setCell w ⟨g, j * 5 + c, none⟩ x b (fun e => hne hL (by rw [hb']; exact congrArg some e.symm))
  by_cases hij : i = j
  · subst hij
    have hi1 : i < vs.length := (List.getElem?_eq_some_iff.1 hu).1
    have hi2 : i < SS.length := (List.getElem?_eq_some_iff.1 hs).1
    rw [List.getElem?_set_self hi1] at hy
    rw [List.getElem?_set_self hi2] at ht
    cases hy
    cases ht
    exact ⟨keepW _ _ hw hb, hb⟩
  · rw [List.getElem?_set_ne (fun e => hij e.symm)] at hy ht
    obtain ⟨k1, k2⟩ := h.row i y t hy ht
    exact ⟨keepW _ _ k1 k2, k2⟩
theorem SpO.is {w : World} {base : Nat} {e : TypeId} {g n cap : Nat} {SS : List Sp} {vs : List Value} (h : SpO w base e (.slice (some ⟨g, 0, none⟩) n cap) SS vs) (hn : n = SS.length) : IsSps w (.slice (some ⟨g, 0, none⟩) n cap) SS := by
  subst hn
  have hc : SS.length ≤ cap ∧ cap ≤ maxLen := by
    rcases h.own.2 with ⟨h0, _⟩ | ⟨g', cap', cur, h0, _, _, h1, h2, _⟩
    · cases h0
    · simp only [Value.slice.injEq] at h0
      obtain ⟨_, _, rfl⟩ := h0
      exact ⟨h1, h2⟩
  refine .inr ⟨⟨g, 0, none⟩, cap, rfl, hc.1, hc.2, fun i s hs => ?_⟩
  have hi : i < SS.length := (List.getElem?_eq_some_iff.1 hs).1
  have hl := h.len
  obtain ⟨u, hu⟩ : ∃ u, vs[i]? = some u := ⟨_, List.getElem?_eq_getElem (by omega)⟩
  have cell : ∀ c, c < 5 → w.cell? ⟨g, i * 5 + c, none⟩ = (s.cells u)[c]? := fun c hc => (h.own.cellAt (i * 5 + c) (by omega)).trans (flatSp_get SS vs i c s u hl hs hu hc)
  rw [addz]
  exact ⟨cell 0 (by omega), cell 1 (by omega), ⟨u, cell 2 (by omega), (h.row i u s hu hs).1⟩, cell 3 (by omega), cell 4 (by omega)⟩
end Go.Proofs.YtnmcgleanpdlmaaDoor

namespace Go.Proofs.YtnmcgleanpdlmaaDoor
open Go.RowKit
/-- What a block is: cells of a type, or a map. -/
def kindO : Obj → Option (Option TypeId)
  | .cells _ t (0, 0) => some (some t)
  | .map _ _ => some none
  | _ => none
/-- Of what was there nothing turns but blocks from the base on, of known kinds; and they stay what they are. -/
structure Tn (K : List (Option TypeId)) (base : Nat) (w w' : World) : Prop where
  os : w'.os = w.os
  tape : w'.tape = w.tape
  output : w'.output = w.output
  size : w.heap.size ≤ w'.heap.size
  block : ∀ i, i < w.heap.size → w'.heap[i]? = w.heap[i]? ∨ (base ≤ i ∧ ∃ k o, k ∈ K ∧ w.heap[i]? = some o ∧ kindO o = some k)
section
variable {K : List (Option TypeId)} {base : Nat} {a b c w w' : World}
theorem Tn.refl (K : List (Option TypeId)) (base : Nat) (w : World) : Tn K base w w := ⟨rfl, rfl, rfl, Nat.le_refl _, fun _ _ => .inl rfl⟩
theorem Tn.trans (h : Tn K base a b) (k : Tn K base b c) : Tn K base a c := by
  refine ⟨k.os.trans h.os, k.tape.trans h.tape, k.output.trans h.output, Nat.le_trans h.size k.size, fun i hi => ?_⟩
  rcases h.block i hi with h1 | h1
  · rcases k.block i (Nat.lt_of_lt_of_le hi h.size) with k1 | ⟨k1, q', p, hq', k2, k3⟩
    · exact .inl (k1.trans h1)
    · exact .inr ⟨k1, q', p, hq', h1 ▸ k2, k3⟩
  · exact .inr h1
theorem Tn.mono {K' : List (Option TypeId)} {base' : Nat} (h : Tn K base a b) (hK : ∀ k ∈ K, k ∈ K') (hb : base' ≤ base) : Tn K' base' a b :=
  ⟨h.os, h.tape, h.output, h.size, fun i hi => (h.block i hi).imp id fun ⟨h1, k, o, h2, h3⟩ => ⟨by omega, k, o, hK k h2, h3⟩⟩
theorem B.tn (h : B a b) (K : List (Option TypeId)) (base : Nat) : Tn K base a b := ⟨h.below.os, h.below.tape, h.below.output, h.below.size, fun i hi => .inl (h.below.block i hi)⟩
theorem Tn.below (h : Tn K base a b) {B0 : Nat} (hb : B0 ≤ base) (hs : B0 ≤ a.heap.size) : Below B0 a b :=
  ⟨h.os, h.tape, h.output, h.size, fun k hk => (h.block k (by omega)).elim id fun ⟨h1, _⟩ => by omega⟩
theorem Tn.toB {W : World} (h : Tn K base a b) (hB : B W a) (hb : W.heap.size ≤ base) : B W b := ⟨hB.below.trans (h.below hb hB.below.size)⟩
/-- A block of another kind stays. -/
theorem Tn.obj (h : Tn K base a b) {i : Nat} {o : Obj} (ho : a.heap[i]? = some o) (hk : ∀ k ∈ K, kindO o ≠ some k) : b.heap[i]? = some o := by
  rcases h.block i (Array.getElem?_eq_some_iff.1 ho).1 with h1 | ⟨_, k, p, h1, h2, h3⟩
  · exact h1.trans ho
  · obtain rfl : p = o := Option.some.inj (h2.symm.trans ho)
    exact absurd h3 (hk k h1)
theorem Tn.objc (h : Tn K base a b) {i : Nat} {cs : Array Value} {t : TypeId} (ho : a.heap[i]? = some (.cells cs t (0, 0))) (hK : some t ∉ K) : b.heap[i]? = some (.cells cs t (0, 0)) :=
  h.obj ho fun k hk e => by
    have : some t = k := Option.some.inj e
    exact hK (this ▸ hk)
theorem Tn.dr (h : Tn K base a b) (k : Dr b c) : Tn K base a c := by
  obtain ⟨n, rfl⟩ := k
  exact ⟨h.os, h.tape, h.output, h.size, h.block⟩
theorem Tn.drew (h : Tn K base a b) : Tn K base a b.drew := ⟨h.os, h.tape, h.output, h.size, h.block⟩
theorem Tn.drewN (h : Tn K base a b) (n : Nat) : Tn K base a (b.drewN n) := h.trans (((B.refl b).drewN n).tn K base)
theorem Tn.alloc (h : Tn K base a b) (cs : Array Value) (t : TypeId) : Tn K base a (b.alloc (.cells cs t)) := h.trans (((B.refl b).alloc cs t).tn K base)
theorem Tn.set (h : Tn K base a b) {p : Addr} {cs : Array Value} {t : TypeId} (ho : b.heap[p.block]? = some (.cells cs t (0, 0))) (hK : some t ∈ K) (hb : base ≤ p.block) (v : Value) : Tn K base a (b.setCell p v) := by
  refine h.trans ⟨rfl, rfl, rfl, by simp [World.setCell], fun i hi => ?_⟩
  by_cases e : i = p.block
  · subst e
    exact .inr ⟨hb, some t, .cells cs t (0, 0), hK, ho, rfl⟩
  · exact .inl (Below.heap_setCell _ _ _ _ e)
/-- The object of an own row. -/
theorem ownsRow_obj {base : Nat} {e : TypeId} {size n : Nat} {v : Value} {xs : List Value} (h : w.ownsRow base e size v n xs) {i : Nat} (hi : v.ownBlock = some i) : base ≤ i ∧ ∃ cs, w.heap[i]? = some (.cells cs e (0, 0)) := by
  rcases h.2 with ⟨rfl, _⟩ | ⟨g, cap, cur, rfl, hb, hg, _⟩
  · simp [Value.ownBlock] at hi
  · obtain rfl : g = i := by simpa [Value.ownBlock] using hi
    exact ⟨hb, cur, hg⟩
theorem Tn.appended (h : Tn K base a b) {base' : Nat} {e : TypeId} {size n : Nat} {v : Value} {xs : List Value} (ho : b.ownsRow base' e size v n xs)
    (g : b.grownBy c v.ownBlock) (hb : base ≤ base') (hK : some e ∈ K) : Tn K base a c := by
  refine h.trans ⟨g.os, g.tape, g.output, g.size, fun i hi => ?_⟩
  by_cases he : some i = v.ownBlock
  · obtain ⟨h1, cs, h2⟩ := ownsRow_obj ho he.symm
    exact .inr ⟨by omega, some e, _, hK, h2, rfl⟩
  · exact .inl (g.block i hi he)
theorem obj_apart {b2 : Nat} {e2 : TypeId} {s2 n2 : Nat} {v2 : Value} {x2 : List Value} {i : Nat} {o : Obj} (ho : w.heap[i]? = some o) (h2 : w.ownsRow b2 e2 s2 v2 n2 x2) (he : kindO o ≠ some (some e2)) : v2.ownBlock ≠ some i := by
  intro e
  obtain ⟨_, cs', h4⟩ := ownsRow_obj h2 e
  rw [ho] at h4
  cases h4
  exact he rfl
theorem obj_grown {row : Option Nat} (g : w.grownBy w' row) {i : Nat} {o : Obj} (ho : w.heap[i]? = some o) (hr : row ≠ some i) : w'.heap[i]? = some o :=
  (g.block i (Array.getElem?_eq_some_iff.1 ho).1 (fun e => hr e.symm)).trans ho
end
end Go.Proofs.YtnmcgleanpdlmaaDoor
