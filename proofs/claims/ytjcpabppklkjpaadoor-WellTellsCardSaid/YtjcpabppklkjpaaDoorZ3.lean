/-
  Wares and tips in memory: a name, three numbers, a shape. No program is named here; Bytes, words, lines of words in memory. No program is named here; Decks as texts: which may be, how they are said, how lines of words are read. No program is named here; Fills, decks in memory. No program is named here; A deck's three slices; whose name a name is. No program is named here; Contract of the document's number of a well; Contracts of the document's own names.
-/
import Derived.Test.YtjcpabppklkjpaaDoorChecked
import Derived.Lib.Hide
import Derived.KernelRfl
import Derived.Laws.OwnMore
import Derived.Laws.BytesArg
import Derived.OwnWalk
import Derived.Test.YtjcpabppklkjpaaDoorZ1
import Derived.Test.YtjcpabppklkjpaaDoorZ2
namespace Go.Proofs.YtjcpabppklkjpaaDoor
open Go.RowKit
structure Rec where
  n : ByteArray
  x : Int
  y : Int
  z : Int
  l : List Sec
def Rec.cells (r : Rec) (v : Value) : List Value := [.string r.n, .int .i64 r.x, .int .i64 r.y, .int .i64 r.z, v]
structure RecAt (w : World) (p : Addr) (r : Rec) : Prop where
  n : w.cell? p = some (.string r.n)
  x : w.cell? ⟨p.block, p.off + 1, none⟩ = some (.int .i64 r.x)
  y : w.cell? ⟨p.block, p.off + 2, none⟩ = some (.int .i64 r.y)
  z : w.cell? ⟨p.block, p.off + 3, none⟩ = some (.int .i64 r.z)
  l : ∃ v, w.cell? ⟨p.block, p.off + 4, none⟩ = some v ∧ IsSecs w v r.l
theorem RecAt.keepB {w w' : World} {p : Addr} {r : Rec} (h : RecAt w p r) (q : B w w') : RecAt w' p r :=
  ⟨q.keep h.n, q.keep h.x, q.keep h.y, q.keep h.z, let ⟨v, h1, h2⟩ := h.l; ⟨v, q.keep h1, h2.keepB q⟩⟩
/-- A slice of them. -/
def IsRecs (w : World) (v : Value) (L : List Rec) : Prop :=
  (v = .slice none 0 0 ∧ L = []) ∨
  ∃ (a : Addr) (cap : Nat), v = .slice (some a) L.length cap ∧ L.length ≤ cap ∧ cap ≤ maxLen ∧ ∀ i r, L[i]? = some r → RecAt w (a.add (i * 5)) r
theorem IsRecs.keepB {w w' : World} {v : Value} {L : List Rec} (h : IsRecs w v L) (q : B w w') : IsRecs w' v L := by
  rcases h with h | ⟨a, cap, h1, h2, h3, h4⟩
  · exact .inl h
  · exact .inr ⟨a, cap, h1, h2, h3, fun i r hr => (h4 i r hr).keepB q⟩
theorem IsRecs.form {w : World} {v : Value} {L : List Rec} (h : IsRecs w v L) : ∃ ao cap, v = .slice ao L.length cap := by
  rcases h with ⟨rfl, rfl⟩ | ⟨a, cap, rfl, _⟩
  · exact ⟨_, _, rfl⟩
  · exact ⟨_, _, rfl⟩
/-- The cells of a row of them; vs: the shapes' slices. -/
def flatR : List Rec → List Value → List Value
  | r :: L, v :: vs => r.cells v ++ flatR L vs
  | _, _ => []
theorem flatR_get : ∀ (L : List Rec) (vs : List Value) (i j : Nat) (r : Rec) (v : Value), L[i]? = some r → vs[i]? = some v → j < 5 → (flatR L vs)[i * 5 + j]? = (r.cells v)[j]?
  | [], _, _, _, _, _, h, _, _ => by simp at h
  | _ :: _, [], _, _, _, _, _, h, _ => by simp at h
  | r :: L, v :: vs, 0, j, r', v', h, h', hj => by
    simp at h h'
    subst h h'
    rw [Nat.zero_mul, Nat.zero_add]
    show (r.cells v ++ flatR L vs)[j]? = _
    rw [List.getElem?_append_left (by simpa [Rec.cells] using hj)]
  | r :: L, v :: vs, i + 1, j, r', v', h, h', hj => by
    show (r.cells v ++ flatR L vs)[(i + 1) * 5 + j]? = _
    rw [List.getElem?_append_right (by simp [Rec.cells]; omega), show (i + 1) * 5 + j - (r.cells v).length = i * 5 + j by simp [Rec.cells]; omega]
    exact flatR_get L vs i j r' v' (by simpa using h) (by simpa using h') hj
/-- Cells that lie in a row are its records. -/
theorem recs_cells {w : World} {g : Nat} {cap : Nat} {L : List Rec} {vs : List Value} (hv : L.length = vs.length) (h1 : L.length ≤ cap) (h2 : cap ≤ maxLen)
    (hc : ∀ j u, (flatR L vs)[j]? = some u → w.cell? ⟨g, j, none⟩ = some u) (hs : ∀ (i : Nat) (r : Rec) (v : Value), L[i]? = some r → vs[i]? = some v → IsSecs w v r.l) : IsRecs w (.slice (some ⟨g, 0, none⟩) L.length cap) L := by
  refine .inr ⟨⟨g, 0, none⟩, cap, rfl, h1, h2, fun i r hr => ?_⟩
  have hi : i < L.length := (List.getElem?_eq_some_iff.1 hr).1
  obtain ⟨v, hvi⟩ : ∃ v, vs[i]? = some v := ⟨_, List.getElem?_eq_getElem (by omega)⟩
  have k := fun j hj u (hu : (r.cells v)[j]? = some u) => hc (i * 5 + j) u ((flatR_get L vs i j r v hr hvi hj).trans hu)
  rw [add0]
  exact ⟨k 0 (by omega) _ rfl, k 1 (by omega) _ rfl, k 2 (by omega) _ rfl, k 3 (by omega) _ rfl, v, k 4 (by omega) _ rfl, hs i r v hr hvi⟩
theorem recs_own {w : World} {base : Nat} {e : TypeId} {g c k : Nat} {L : List Rec} {vs : List Value} (h : w.ownsRow base e 5 (.slice (some ⟨g, 0, none⟩) k c) k (flatR L vs)) (hk : 0 < k) (hl : L.length = k) (hv : L.length = vs.length)
    (hs : ∀ (i : Nat) (r : Rec) (v : Value), L[i]? = some r → vs[i]? = some v → IsSecs w v r.l) : IsRecs w (.slice (some ⟨g, 0, none⟩) k c) L := by
  have hh := h
  rcases hh.2 with ⟨_, h0⟩ | ⟨g', cap, cur, hg, _, _, h1, h2, _⟩
  · omega
  · simp only [Value.slice.injEq, Option.some.injEq, Addr.mk.injEq] at hg
    obtain ⟨⟨rfl, _⟩, _, rfl⟩ := hg
    subst hl
    exact recs_cells hv h1 h2 (fun j u hj => by have := h.cells rfl j u hj; rwa [add0] at this) hs
theorem IsRecs.at_ {w : World} {v : Value} {L : List Rec} (h : IsRecs w v L) {i : Nat} (hi : i < L.length) : ∃ (a : Addr) (cap : Nat), v = .slice (some a) L.length cap ∧ L.length ≤ cap ∧ cap ≤ maxLen ∧ RecAt w (a.add (i * 5)) L[i] := by
  rcases h with ⟨_, rfl⟩ | ⟨a, cap, h1, h2, h3, h4⟩
  · simp at hi
  · exact ⟨a, cap, h1, h2, h3, h4 i _ (List.getElem?_eq_getElem hi)⟩
/-- What is owned stays, where nothing that was there turns. -/
theorem ownsRow_keepB {w w' : World} {base : Nat} {e : TypeId} {size n : Nat} {v : Value} {xs : List Value} (h : w.ownsRow base e size v n xs) (q : B w w') : w'.ownsRow base e size v n xs :=
  h.kept (row := none) ⟨q.below.os, q.below.tape, q.below.output, q.below.size, fun k hk _ => q.below.block k hk⟩ (by cases v.ownBlock <;> simp)
/-- Slots of a drawn region: shapes in blocks from k on. -/
def SecsV (k : Nat) (l : List Sec) : Value → World → Prop := fun v w => ∃ o n p, v = .slice o n p ∧ IsSecs w (.slice o n p) l ∧ ∀ b, (Value.slice o n p).ownBlock = some b → k ≤ b ∧ b < w.heap.size
theorem slot_secs (k : Nat) (l : List Sec) : Slot.stays (SecsV k l) := fun _ _ _ ⟨o, n, p, h1, h2, h3⟩ q => ⟨o, n, p, h1, h2.keepB q, fun b hb => ⟨(h3 b hb).1, Nat.lt_of_lt_of_le (h3 b hb).2 q.below.size⟩⟩
def RecV (k : Nat) (r : Rec) : Value → World → Prop := fun v w => ∃ o n p, v = .agg #[.string r.n, .int .i64 r.x, .int .i64 r.y, .int .i64 r.z, .slice o n p] ∧ IsSecs w (.slice o n p) r.l ∧ ∀ b, (Value.slice o n p).ownBlock = some b → k ≤ b ∧ b < w.heap.size
theorem slot_rec (k : Nat) (r : Rec) : Slot.stays (RecV k r) := fun _ _ _ ⟨o, n, p, h1, h2, h3⟩ q => ⟨o, n, p, h1, h2.keepB q, fun b hb => ⟨(h3 b hb).1, Nat.lt_of_lt_of_le (h3 b hb).2 q.below.size⟩⟩
def RecRow (k : Nat) (r : Rec) : Value → World → Prop := fun v w => ∃ b o n p, v = .slice (some ⟨b, 0, none⟩) 1 1 ∧ (∀ j u, (r.cells (.slice o n p))[j]? = some u → w.cell? ⟨b, j, none⟩ = some u) ∧ IsSecs w (.slice o n p) r.l ∧ ∀ b, (Value.slice o n p).ownBlock = some b → k ≤ b ∧ b < w.heap.size
theorem slot_recrow (k : Nat) (r : Rec) : Slot.stays (RecRow k r) := fun _ _ _ ⟨b, o, n, p, h1, h2, h3, h4⟩ q => ⟨b, o, n, p, h1, fun j u hj => q.keep (h2 j u hj), h3.keepB q, fun b hb => ⟨(h4 b hb).1, Nat.lt_of_lt_of_le (h4 b hb).2 q.below.size⟩⟩
theorem secs_lt {w : World} {v : Value} {l : List Sec} (h : IsSecs w v l) (hl : 1 ≤ l.length) {b : Nat} (hb : v.ownBlock = some b) : b < w.heap.size := by
  rcases h with ⟨rfl, rfl⟩ | ⟨a, cap, rfl, h2, h3, h4⟩
  · simp at hl
  · have e : a.block = b := Option.some.inj hb
    obtain ⟨s, hs⟩ : ∃ s, l[0]? = some s := ⟨_, List.getElem?_eq_getElem (by omega)⟩
    have := World.block_lt_of_cell? w _ (h4 0 s hs).2.r
    have e2 : (a.add (0 * 6)).block = a.block := by unfold Addr.add; split <;> rfl
    omega
/-- Sections whose block doesn't turn. -/
theorem isSecs_keepOwn {S : Nat → Prop} {w w' : World} {v : Value} {l : List Sec} (h : IsSecs w v l) (hS : ∀ b, v.ownBlock = some b → ¬ S b) (q : G S w w') : IsSecs w' v l := by
  rcases h with ⟨rfl, rfl⟩ | ⟨a, cap, rfl, h2, h3, h4⟩
  · exact .inl ⟨rfl, rfl⟩
  · refine .inr ⟨a, cap, rfl, h2, h3, fun i s hs => ⟨(h4 i s hs).1, ?_⟩⟩
    obtain ⟨f0, f1, f2, f3, f4, f5⟩ := (h4 i s hs).2
    have hb : ¬ S (a.add (i * 6)).block := by
      have e : (a.add (i * 6)).block = a.block := by unfold Addr.add; split <;> rfl
      rw [e]
      exact hS _ rfl
    exact ⟨q.keep hb f0, q.keep hb f1, q.keep hb f2, q.keep hb f3, q.keep hb f4, q.keep hb f5⟩
theorem B.obj {w w' : World} (h : B w w') {b : Nat} {o : Obj} (ho : w.heap[b]? = some o) : w'.heap[b]? = some o :=
  (h.below.block b (Array.getElem?_eq_some_iff.1 ho).1).trans ho
theorem spot_none {w : World} {p : Addr} {s : ByteArray} (h : w.cell? p = some (.string s)) : p.spot = none := by
  cases hsp : p.spot with
  | none => rfl
  | some x =>
    unfold World.cell? at h
    split at h
    · simp [hsp] at h
    · cases h
/-- Records lie in no block of S, if no cell of these is a string or a bool. -/
theorem isRecs_keepG {S : Nat → Prop} {w w' : World} {v : Value} {L : List Rec} (h : IsRecs w v L) (hS : ∀ i, S i → ∀ k, (∀ r, w.cell? ⟨i, k, none⟩ ≠ some (.bool r)) ∧ ∀ s, w.cell? ⟨i, k, none⟩ ≠ some (.string s)) (q : G S w w') : IsRecs w' v L := by
  rcases h with ⟨rfl, rfl⟩ | ⟨a, cap, rfl, h2, h3, h4⟩
  · exact .inl ⟨rfl, rfl⟩
  · refine .inr ⟨a, cap, rfl, h2, h3, fun i r hr => ?_⟩
    obtain ⟨f0, f1, f2, f3, v, f4, f5⟩ := h4 i r hr
    have hsp := spot_none f0
    have hb : ¬ S (a.add (i * 5)).block := fun hs' => by
      refine (hS _ hs' (a.add (i * 5)).off).2 r.n ?_
      rw [← f0]
      congr 1
      rw [← hsp]
    exact ⟨q.keep hb f0, q.keep hb f1, q.keep hb f2, q.keep hb f3, v, q.keep hb f4, isSecs_keepG f5 (fun i hi k r => (hS i hi k).1 r) q⟩
/-- Three cells of one block written. -/
theorem g_three (w : World) (b : Nat) (x y z : Value) : G (fun i => i = b) w (((w.setCell ⟨b, 0, none⟩ x).setCell ⟨b, 1, none⟩ y).setCell ⟨b, 2, none⟩ z) :=
  G.setCell (S := fun i => i = b) (p := ⟨b, 2, none⟩) (G.setCell (S := fun i => i = b) (p := ⟨b, 1, none⟩) (G.setCell (S := fun i => i = b) (p := ⟨b, 0, none⟩) (G.refl _ _) (.inl rfl) _) (.inl rfl) _) (.inl rfl) _
theorem b_three {u w : World} (h : B u w) {b : Nat} (hb : u.heap.size ≤ b) (x y z : Value) : B u (((w.setCell ⟨b, 0, none⟩ x).setCell ⟨b, 1, none⟩ y).setCell ⟨b, 2, none⟩ z) :=
  B.setCell (p := ⟨b, 2, none⟩) (B.setCell (p := ⟨b, 1, none⟩) (B.setCell (p := ⟨b, 0, none⟩) h hb _) hb _) hb _
theorem obj_three {w : World} {b : Nat} {x0 y0 z0 : Value} {t : TypeId} (h : w.heap[b]? = some (.cells #[x0, y0, z0] t (0, 0))) (x y z : Value) :
    (((w.setCell ⟨b, 0, none⟩ x).setCell ⟨b, 1, none⟩ y).setCell ⟨b, 2, none⟩ z).heap[b]? = some (.cells #[x, y, z] t (0, 0)) := by
  have := obj_set (obj_set (obj_set h 0 x) 1 y) 2 z
  simpa using this
end Go.Proofs.YtjcpabppklkjpaaDoor

namespace Go.Proofs.YtjcpabppklkjpaaDoor
open Go.RowKit
/-- Bytes lie in block b, from place o on. -/
def BAt (w : World) (b o : Nat) (bs : List UInt8) : Prop := ∀ i c, bs[i]? = some c → w.cell? ⟨b, o + i, none⟩ = some (.int .u8 ((c.toNat : Nat) : Int))
theorem BAt.keep {w w' : World} {b o : Nat} {bs : List UInt8} (h : BAt w b o bs) (q : B w w') : BAt w' b o bs := fun i c hc => q.keep (h i c hc)
/-- The header of a slice of bytes. -/
structure IsB (w : World) (ao : Option Addr) (cap b o : Nat) (bs : List UInt8) : Prop where
  at_ : BAt w b o bs
  ao : 0 < bs.length → ao = some ⟨b, o, none⟩
  le : bs.length ≤ cap
  max : cap ≤ maxLen
theorem IsB.keep {w w' : World} {ao : Option Addr} {cap b o : Nat} {bs : List UInt8} (h : IsB w ao cap b o bs) (q : B w w') : IsB w' ao cap b o bs := ⟨h.at_.keep q, h.ao, h.le, h.max⟩
theorem BAt.drop {w : World} {b o : Nat} {bs : List UInt8} (h : BAt w b o bs) (k : Nat) : BAt w b (o + k) (bs.drop k) := fun i c hc => by
  rw [List.getElem?_drop] at hc
  rw [Nat.add_assoc]
  exact h _ _ hc
theorem BAt.take {w : World} {b o : Nat} {bs : List UInt8} (h : BAt w b o bs) (k : Nat) : BAt w b o (bs.take k) := fun i c hc => by
  rw [List.getElem?_take] at hc
  split at hc
  · exact h _ _ hc
  · cases hc
/-- A string of bytes. -/
def strB (l : List UInt8) : ByteArray := ⟨l.toArray⟩
theorem strB_size (l : List UInt8) : (strB l).size = l.length := by simp [strB, ByteArray.size]
/-- Words in memory. -/
def IsWords (w : World) (v : Value) (ws : List Wd) : Prop :=
  (v = .slice none 0 0 ∧ ws = []) ∨
  ∃ g cap, v = .slice (some ⟨g, 0, none⟩) ws.length cap ∧ ws.length ≤ cap ∧ cap ≤ maxLen ∧ ∀ i x, ws[i]? = some x → w.cell? ⟨g, i * 2, none⟩ = some (.int .i64 ((x.1 : Nat) : Int)) ∧ w.cell? ⟨g, i * 2 + 1, none⟩ = some (.string (strB x.2))
theorem IsWords.form {w : World} {v : Value} {ws : List Wd} (h : IsWords w v ws) : ∃ ao cap, v = .slice ao ws.length cap := by
  rcases h with ⟨rfl, rfl⟩ | ⟨g, cap, rfl, _⟩ <;> exact ⟨_, _, rfl⟩
/-- Words stay where their block stays. -/
theorem IsWords.block {w w' : World} {v : Value} {ws : List Wd} (h : IsWords w v ws) (hb : ∀ b, v.ownBlock = some b → b < w.heap.size → w'.heap[b]? = w.heap[b]?) : IsWords w' v ws := by
  rcases h with h | ⟨g, cap, rfl, h2, h3, h4⟩
  · exact .inl h
  · refine .inr ⟨g, cap, rfl, h2, h3, fun i x hx => ?_⟩
    obtain ⟨k1, k2⟩ := h4 i x hx
    have hlt := World.block_lt_of_cell? w _ k1
    have e := hb g rfl hlt
    exact ⟨(World.cell?_of_block (a := ⟨g, i * 2, none⟩) e).trans k1, (World.cell?_of_block (a := ⟨g, i * 2 + 1, none⟩) e).trans k2⟩
theorem IsWords.keep {w w' : World} {v : Value} {ws : List Wd} (h : IsWords w v ws) (q : B w w') : IsWords w' v ws := h.block fun b _ hlt => q.below.block b hlt
/-- Lines of words, in a row that the call owns. -/
structure LinesO (w : World) (base : Nat) (e : TypeId) (v : Value) (LL : List (List Wd)) (vs : List Value) : Prop where
  own : w.ownsRow base e 1 v LL.length vs
  row : ∀ (j : Nat) u L, vs[j]? = some u → LL[j]? = some L → IsWords w u L ∧ ∃ b, u.ownBlock = some b ∧ v.ownBlock ≠ some b ∧ b < w.heap.size ∧ base ≤ b
theorem LinesO.nil (w : World) (base : Nat) (e : TypeId) : LinesO w base e (.slice none 0 0) [] [] := ⟨World.ownsRow_nil _ _ _ _, fun j u L h => by simp at h⟩
theorem lines_keep {w w' : World} {base : Nat} {e : TypeId} {v : Value} {LL : List (List Wd)} {vs : List Value} (h : LinesO w base e v LL vs) {row : Option Nat} (q : w.grownBy w' row)
    (hv : ∀ b, row = some b → v.ownBlock ≠ some b) (hs : ∀ b, row = some b → ∀ u ∈ vs, u.ownBlock ≠ some b) : LinesO w' base e v LL vs := by
  refine ⟨h.own.kept (row := row) q ?_, fun j u L hu hL => ?_⟩
  · cases hb : v.ownBlock with
    | none => exact .inl rfl
    | some b => exact .inr fun e => hv b e.symm hb
  · obtain ⟨h1, b, h2, h3, h4, h5⟩ := h.row j u L hu hL
    exact ⟨h1.block fun b' hb' hlt => q.block b' hlt (fun e => hs b' e.symm u (List.mem_of_getElem? hu) hb'), b, h2, h3, Nat.lt_of_lt_of_le h4 q.size, h5⟩
theorem B.none {w w' : World} (q : B w w') : w.grownBy w' none := ⟨q.below.os, q.below.tape, q.below.output, q.below.size, fun k hk _ => q.below.block k hk⟩
theorem info_of {P : Program} {t : TypeId} {z : Value} {s b : Nat} (h : (P.info? t).map (fun i => (i.zero, i.size, i.bytes)) = some (some z, s, b)) : ∃ i, P.info? t = some i ∧ i.zero = some z ∧ i.size = s ∧ i.bytes = b := by
  cases hi : P.info? t with
  | none => rw [hi] at h; cases h
  | some i => rw [hi] at h; simp at h; exact ⟨i, rfl, h.1, h.2.1, h.2.2⟩
theorem LinesO.keep {w w' : World} {base : Nat} {e : TypeId} {v : Value} {LL : List (List Wd)} {vs : List Value} (h : LinesO w base e v LL vs) (q : B w w') : LinesO w' base e v LL vs :=
  lines_keep h q.none (fun b hb => by cases hb) (fun b hb => by cases hb)
theorem LinesO.len {w : World} {base : Nat} {e : TypeId} {v : Value} {LL : List (List Wd)} {vs : List Value} (h : LinesO w base e v LL vs) : vs.length = LL.length := by
  have := h.own.1
  omega
/-- Lines of words in memory. -/
def IsLines (w : World) (v : Value) (LL : List (List Wd)) : Prop :=
  (v = .slice none 0 0 ∧ LL = []) ∨
  ∃ g cap, v = .slice (some ⟨g, 0, none⟩) LL.length cap ∧ LL.length ≤ cap ∧ cap ≤ maxLen ∧ ∀ i L, LL[i]? = some L → ∃ u, w.cell? ⟨g, i, none⟩ = some u ∧ IsWords w u L
theorem IsLines.keep {w w' : World} {v : Value} {LL : List (List Wd)} (h : IsLines w v LL) (q : B w w') : IsLines w' v LL := by
  rcases h with h | ⟨g, cap, h1, h2, h3, h4⟩
  · exact .inl h
  · exact .inr ⟨g, cap, h1, h2, h3, fun i L hL => by obtain ⟨u, k1, k2⟩ := h4 i L hL; exact ⟨u, q.keep k1, k2.keep q⟩⟩
theorem IsLines.form {w : World} {v : Value} {LL : List (List Wd)} (h : IsLines w v LL) : ∃ ao cap, v = .slice ao LL.length cap := by
  rcases h with ⟨rfl, rfl⟩ | ⟨g, cap, rfl, _⟩ <;> exact ⟨_, _, rfl⟩
theorem LinesO.is {w : World} {base : Nat} {e : TypeId} {v : Value} {LL : List (List Wd)} {vs : List Value} (h : LinesO w base e v LL vs) : IsLines w v LL := by
  have hown := h.own
  rcases hown.2 with ⟨h0, h1⟩ | ⟨g, cap, cur, rfl, _, _, h1, h2, _⟩
  · exact .inl ⟨h0, List.length_eq_zero_iff.1 (by omega)⟩
  · refine .inr ⟨g, cap, rfl, h1, h2, fun i L hL => ?_⟩
    have hi : i < LL.length := (List.getElem?_eq_some_iff.1 hL).1
    have hlen := h.len
    have hu : vs[i]? = some vs[i] := List.getElem?_eq_getElem (by omega)
    exact ⟨_, (hown.cellAt i (by omega)).trans hu, (h.row i _ L hu hL).1⟩
end Go.Proofs.YtjcpabppklkjpaaDoor

namespace Go.Proofs.YtjcpabppklkjpaaDoor
open Go.RowKit
/-- A ware, a tip: a name, three numbers, a shape. -/
abbrev Wr := Rec
/-- A fill: a well's ware, row, column; how much. -/
structure Fl where
  n : ByteArray
  r : Int
  c : Int
  v : Int
structure Dk where
  ws : List Wr
  ts : List Wr
  fs : List Fl
def dk0 : Dk := ⟨[], [], []⟩
/-- The number of a well; none if it isn't there. -/
def indexW : List Wr → Int → ByteArray → Int → Int → Option Int
  | [], _, _, _, _ => none
  | w :: ws, k, n, r, c => if w.n.toList == n.toList then (if 0 ≤ r ∧ r < w.x ∧ 0 ≤ c ∧ c < w.y then some (k + (r * w.y + c)) else none) else indexW ws (k + w.x * w.y) n r c
def hasW (ws : List Wr) (n : ByteArray) (r c : Int) : Bool := (indexW ws 0 n r c).isSome
/-- Of a text: a well's name, row, column. -/
def wellL (l : List UInt8) : Option (List UInt8 × Nat × Nat) :=
  let n := l.takeWhile fun c => decide (c.toNat ≠ 46)
  match l.drop (n.length + 1) with
  | [] => none
  | r :: ds => if nameS (strB n) = true ∧ 65 ≤ r.toNat ∧ r.toNat ≤ 72 ∧ numOk (strB ds) = true ∧ 1 ≤ numV (strB ds) ∧ numV (strB ds) ≤ 12 then some (n, r.toNat - 65, numV (strB ds) - 1) else none
/-- A section more: of the last ware, of the last tip. -/
def moreR (w : Wr) (s : Sec) : Wr := { w with l := w.l ++ [s] }
def moreW : List Wr → Sec → List Wr
  | [], _ => []
  | [w], s => [moreR w s]
  | w :: ws, s => w :: moreW ws s
def Dk.add (d : Dk) (o : Nat) (s : Sec) : Dk := if o = 1 then { d with ws := moreW d.ws s } else if o = 2 then { d with ts := moreW d.ts s } else d
/-- A number's digits. -/
def decI (x : Int) : List UInt8 := Lib.decDigits x.toNat
/-- A well's text. -/
def wellT (n : ByteArray) (r c : Int) : List UInt8 := if nameS n = true ∧ 0 ≤ r ∧ r < 8 ∧ 0 ≤ c ∧ c < 12 then n.data.toList ++ [46, UInt8.ofNat (65 + r.toNat)] ++ decI (c + 1) else []
end Go.Proofs.YtjcpabppklkjpaaDoor

namespace Go.Proofs.YtjcpabppklkjpaaDoor
open Go.RowKit
structure FlAt (w : World) (p : Addr) (f : Fl) : Prop where
  n : w.cell? p = some (.string f.n)
  r : w.cell? ⟨p.block, p.off + 1, none⟩ = some (.int .i64 f.r)
  c : w.cell? ⟨p.block, p.off + 2, none⟩ = some (.int .i64 f.c)
  v : w.cell? ⟨p.block, p.off + 3, none⟩ = some (.int .i64 f.v)
theorem FlAt.keepB {w w' : World} {p : Addr} {f : Fl} (h : FlAt w p f) (q : B w w') : FlAt w' p f := ⟨q.keep h.n, q.keep h.r, q.keep h.c, q.keep h.v⟩
def IsFls (w : World) (v : Value) (L : List Fl) : Prop :=
  (v = .slice none 0 0 ∧ L = []) ∨
  ∃ (a : Addr) (cap : Nat), v = .slice (some a) L.length cap ∧ L.length ≤ cap ∧ cap ≤ maxLen ∧ ∀ i f, L[i]? = some f → FlAt w (a.add (i * 4)) f
theorem IsFls.keepB {w w' : World} {v : Value} {L : List Fl} (h : IsFls w v L) (q : B w w') : IsFls w' v L := by
  rcases h with h | ⟨a, cap, h1, h2, h3, h4⟩
  · exact .inl h
  · exact .inr ⟨a, cap, h1, h2, h3, fun i f hf => (h4 i f hf).keepB q⟩
theorem IsFls.form {w : World} {v : Value} {L : List Fl} (h : IsFls w v L) : ∃ ao cap, v = .slice ao L.length cap := by
  rcases h with ⟨rfl, rfl⟩ | ⟨a, cap, rfl, _⟩
  · exact ⟨_, _, rfl⟩
  · exact ⟨_, _, rfl⟩
theorem IsFls.at_ {w : World} {v : Value} {L : List Fl} (h : IsFls w v L) {i : Nat} (hi : i < L.length) : ∃ (a : Addr) (cap : Nat), v = .slice (some a) L.length cap ∧ L.length ≤ cap ∧ cap ≤ maxLen ∧ FlAt w (a.add (i * 4)) L[i] := by
  rcases h with ⟨_, rfl⟩ | ⟨a, cap, h1, h2, h3, h4⟩
  · simp at hi
  · exact ⟨a, cap, h1, h2, h3, h4 i _ (List.getElem?_eq_getElem hi)⟩
/-- A deck in memory: its three slices. -/
structure IsDk (w : World) (wv tv fv : Value) (d : Dk) : Prop where
  ws : IsRecs w wv d.ws
  ts : IsRecs w tv d.ts
  fs : IsFls w fv d.fs
theorem IsDk.keepB {w w' : World} {wv tv fv : Value} {d : Dk} (h : IsDk w wv tv fv d) (q : B w w') : IsDk w' wv tv fv d := ⟨h.ws.keepB q, h.ts.keepB q, h.fs.keepB q⟩
theorem len_max {n : Nat} {cap : Nat} (h : n ≤ cap) (h2 : cap ≤ maxLen) : n ≤ 9223372036854775807 := by unfold maxLen at h2; omega
theorem IsRecs.len {w : World} {v : Value} {L : List Rec} (h : IsRecs w v L) : L.length ≤ 9223372036854775807 := by
  rcases h with ⟨_, rfl⟩ | ⟨a, cap, _, h2, h3, _⟩
  · simp
  · exact len_max h2 h3
theorem IsFls.len {w : World} {v : Value} {L : List Fl} (h : IsFls w v L) : L.length ≤ 9223372036854775807 := by
  rcases h with ⟨_, rfl⟩ | ⟨a, cap, _, h2, h3, _⟩
  · simp
  · exact len_max h2 h3
theorem secs_form {w : World} {v : Value} {l : List Sec} (h : IsSecs w v l) : ∃ ao cap, v = .slice ao l.length cap := by
  rcases h with ⟨rfl, rfl⟩ | ⟨a, cap, rfl, _⟩
  · exact ⟨_, _, rfl⟩
  · exact ⟨_, _, rfl⟩
end Go.Proofs.YtjcpabppklkjpaaDoor

namespace Go.Proofs.YtjcpabppklkjpaaDoor
open Go.RowKit
theorem IsDk.forms {w : World} {wv tv fv : Value} {d : Dk} (h : IsDk w wv tv fv d) : ∃ ao ac bo bc co cc, wv = .slice ao d.ws.length ac ∧ tv = .slice bo d.ts.length bc ∧ fv = .slice co d.fs.length cc := by
  obtain ⟨ao, ac, h1⟩ := h.ws.form
  obtain ⟨bo, bc, h2⟩ := h.ts.form
  obtain ⟨co, cc, h3⟩ := h.fs.form
  exact ⟨ao, ac, bo, bc, co, cc, h1, h2, h3⟩
end Go.Proofs.YtjcpabppklkjpaaDoor

namespace Go.Proofs.YtjcpabppklkjpaaDoor
open Go.RowKit
def wareB (w : Wr) : Prop := 1 ≤ w.x ∧ w.x ≤ 8 ∧ 1 ≤ w.y ∧ w.y ≤ 12
theorem mul_small {a b : Int} (h1 : 0 ≤ a) (h2 : a ≤ 8) (h3 : 0 ≤ b) (h4 : b ≤ 12) : 0 ≤ a * b ∧ a * b ≤ 96 := by
  refine ⟨Int.mul_nonneg h1 h3, ?_⟩
  have := Int.mul_le_mul h2 h4 h3 (by omega : (0 : Int) ≤ 8)
  omega
theorem index_cons {ws : List Wr} {i : Nat} (hi : i < ws.length) (K : Int) (n : ByteArray) (r c : Int) : indexW (ws.drop i) K n r c = (if (ws[i]).n.toList == n.toList then (if 0 ≤ r ∧ r < (ws[i]).x ∧ 0 ≤ c ∧ c < (ws[i]).y then some (K + (r * (ws[i]).y + c)) else none) else indexW (ws.drop (i + 1)) (K + (ws[i]).x * (ws[i]).y) n r c) := by
  rw [List.drop_eq_getElem_cons hi]
  rfl
set_option maxHeartbeats 2000000 in
theorem r8index_any (wv tv fv : Value) (d : Dk) (n : ByteArray) (r c : Int) (w : World) (h : IsDk w wv tv fv d) (hb : ∀ x ∈ d.ws, wareB x) (h100 : d.ws.length ≤ 100) : Calls Tryd.prog 19 #[.agg #[wv, tv, fv], .agg #[.string n, .int .i64 r, .int .i64 c]] w fun e w' => e = .returned (.tuple #[.int .i64 ((indexW d.ws 0 n r c).getD 0), .bool (hasW d.ws n r c)]) ∧ Q w w' := by
  obtain ⟨ao, ac, bo, bc, co, cc, rfl, rfl, rfl⟩ := h.forms
  have hQ := ((Q.refl w).alloc #[.slice ao d.ws.length ac, .slice bo d.ts.length bc, .slice co d.fs.length cc] 37).alloc #[.string n, .int .i64 r, .int .i64 c] 23
  have hR := h.ws.keepB hQ.b
  obtain ⟨W, hW⟩ : ∃ W, (w.alloc (.cells #[.slice ao d.ws.length ac, .slice bo d.ts.length bc, .slice co d.fs.length cc] 37)).alloc (.cells #[.string n, .int .i64 r, .int .i64 c] 23) = W := ⟨_, rfl⟩
  have k0 : W.cell? ⟨w.heap.size, 0, none⟩ = some (.slice ao d.ws.length ac) := by rw [← hW]; exact ((Q.refl _).alloc _ _).keep (by rw [World.cell?_alloc_new]; rfl)
  have e1 : (w.alloc (.cells #[.slice ao d.ws.length ac, .slice bo d.ts.length bc, .slice co d.fs.length cc] 37)).heap.size = w.heap.size + 1 := by simp
  have k1 : W.cell? ⟨w.heap.size + 1, 0, none⟩ = some (.string n) := by rw [← hW, ← e1, World.cell?_alloc_new]; rfl
  have k2 : W.cell? ⟨w.heap.size + 1, 1, none⟩ = some (.int .i64 r) := by rw [← hW, ← e1, World.cell?_alloc_new]; rfl
  have k3 : W.cell? ⟨w.heap.size + 1, 2, none⟩ = some (.int .i64 c) := by rw [← hW, ← e1, World.cell?_alloc_new]; rfl
  rw [hW] at hR hQ
  replace hQ := Lib.hid hQ
  clear h e1
  unfold hasW
  obtain ⟨R, hRR⟩ : ∃ R, indexW d.ws 0 n r c = R := ⟨_, rfl⟩
  rw [hRR]
  go_enter Tryd.func19, Tryd.ntmps19
  go_wp2
  try rw [hW]
  clear hW
  generalize w.heap.size = H at *
  go_loopw [6, 7] (fun nv iv wr => ∃ (i : Nat) (K : Int), i ≤ d.ws.length ∧ iv = .int .i64 i ∧ nv = .int .i64 K ∧ 0 ≤ K ∧ K ≤ 96 * (i : Int) ∧ R = indexW (d.ws.drop i) K n r c ∧ Q W wr) (fun _ iv _ => d.ws.length + 1 - (intOf iv).toNat)
  case atStart => exact ⟨0, 0, Nat.zero_le _, rfl, rfl, by omega, by omega, hRR.symm, Q.refl _⟩
  case round =>
    obtain ⟨i, K, hi, rfl, rfl, hK0, hK1, hRi, hQi⟩ := hrel
    obtain ⟨wo, rfl⟩ : ∃ wo : World, wo = wr := ⟨_, rfl⟩
    clear hRR
    replace k0 := hQi.keep k0
    replace k1 := hQi.keep k1
    replace k2 := hQi.keep k2
    replace k3 := hQi.keep k3
    by_cases hl : i < d.ws.length
    · have hlB : decide ((i : Int) < (d.ws.length : Int)) = true := decide_eq_true (by omega)
      have hlI : (i : Int) < (d.ws.length : Int) := by omega
      have hi0 : (0 : Int) ≤ (i : Int) := by omega
      have wk1 : IntKind.i64.wrap ((i : Int) + 1) = (i : Int) + 1 := by rw [IntKind.wrap_i64]; omega
      obtain ⟨a, cap, e1, _, _, hr⟩ := (hR.keepB hQi.b).at_ hl
      obtain ⟨rfl, _, rfl⟩ : ao = some a ∧ True ∧ ac = cap := by simpa using e1
      have hbi := hb _ (List.getElem_mem hl)
      rw [index_cons hl] at hRi
      obtain ⟨F, hF⟩ : ∃ F, d.ws[i] = F := ⟨_, rfl⟩
      rw [hF] at hr hRi hbi
      obtain ⟨b1, b2, b3, b4⟩ := hbi
      obtain ⟨g1, g2, g3, g4, sv, g5, g6⟩ := hr
      obtain ⟨so, sc, rfl⟩ := secs_form g6
      obtain ⟨sn, hsn⟩ : ∃ sn, F.l.length = sn := ⟨_, rfl⟩
      rw [hsn] at g5 g6
      clear hsn
      obtain ⟨N, X, Y, Z, SL⟩ := F
      simp only at g1 g2 g3 g4 g5 hRi b1 b2 b3 b4
      have q1 := (Q.refl wo).alloc #[.string N, .int .i64 X, .int .i64 Y, .int .i64 Z, .slice so sn sc] 58
      have m0 := q1.keep k0
      have m1 := q1.keep k1
      have m2 := q1.keep k2
      have m3 := q1.keep k3
      have hs := World.block_lt_of_cell? _ _ k1
      have HQ := Lib.hid (hQi.trans q1)
      have HL := Lib.hid hl
      obtain ⟨W1, hW1⟩ : ∃ W1, wo.alloc (.cells #[.string N, .int .i64 X, .int .i64 Y, .int .i64 Z, .slice so sn sc] 58) = W1 := ⟨_, rfl⟩
      have p0 : W1.cell? ⟨wo.heap.size, 0, none⟩ = some (.string N) := by rw [← hW1, World.cell?_alloc_new]; rfl
      have p1 : W1.cell? ⟨wo.heap.size, 1, none⟩ = some (.int .i64 X) := by rw [← hW1, World.cell?_alloc_new]; rfl
      have p2 : W1.cell? ⟨wo.heap.size, 2, none⟩ = some (.int .i64 Y) := by rw [← hW1, World.cell?_alloc_new]; rfl
      rw [hW1] at m0 m1 m2 m3 HQ
      clear hR hF e1 g6 q1 hs hQi hb hi
      cases hc : (N.toList == n.toList)
      · rw [hc, if_neg (by decide)] at hRi
        have hxy := mul_small (a := X) (b := Y) (by omega) b2 (by omega) b4
        obtain ⟨P, hP⟩ : ∃ P, X * Y = P := ⟨_, rfl⟩
        rw [hP] at hxy hRi
        obtain ⟨K', hK'⟩ : ∃ K', K + P = K' := ⟨_, rfl⟩
        rw [hK'] at hRi
        have w1 : IntKind.i64.wrap (X * Y) = P := by rw [hP, IntKind.wrap_i64]; omega
        have w2 : IntKind.i64.wrap (K + P) = K' := by rw [hK', IntKind.wrap_i64]; omega
        have HS := Lib.hid (And.intro hRi (show 0 ≤ K' ∧ K' ≤ 96 * ((i : Int) + 1) by omega))
        clear hRi hxy hP hK' hK0 hK1 hl b1 b2 b3 b4
        go_wp2
        try rw [hW1]
        go_roundw
        case rel => exact ⟨i + 1, K', by have := HL.out; omega, by go_num, rfl, HS.out.2.1, by have := HS.out.2.2; omega, HS.out.1, HQ.out⟩
        case measure => have := HL.out; simp [intOf]; omega
      · rw [hc, if_pos rfl] at hRi
        by_cases r0 : 0 ≤ r
        · have r0B : decide (r < 0) = false := decide_eq_false (by omega)
          by_cases r1 : r < X
          · have r1B : decide (X ≤ r) = false := decide_eq_false (by omega)
            by_cases c0 : 0 ≤ c
            · have c0B : decide (c < 0) = false := decide_eq_false (by omega)
              by_cases c1 : c < Y
              · have c1B : decide (Y ≤ c) = false := decide_eq_false (by omega)
                rw [if_pos ⟨r0, r1, c0, c1⟩] at hRi
                have hxy := mul_small (a := r) (b := Y) r0 (by omega) (by omega) b4
                obtain ⟨P, hP⟩ : ∃ P, r * Y = P := ⟨_, rfl⟩
                rw [hP] at hxy hRi
                have w1 : IntKind.i64.wrap (r * Y) = P := by rw [hP, IntKind.wrap_i64]; omega
                obtain ⟨K1, hK1'⟩ : ∃ K1, K + P = K1 := ⟨_, rfl⟩
                obtain ⟨K2, hK2⟩ : ∃ K2, K1 + c = K2 := ⟨_, rfl⟩
                have w2 : IntKind.i64.wrap (K + P) = K1 := by rw [hK1', IntKind.wrap_i64]; omega
                have w3 : IntKind.i64.wrap (K1 + c) = K2 := by rw [hK2, IntKind.wrap_i64]; omega
                have e2 : K + (P + c) = K2 := by omega
                rw [e2] at hRi
                subst hRi
                clear hP hxy hK1' hK2 e2 hK0 hK1 b1 b2 b3 b4 r0 r1 c0 c1 hl
                go_wp2
                try rw [hW1]
                go_ret2
                exact ⟨rfl, hQ.out.trans HQ.out⟩
              · have c1B : decide (Y ≤ c) = true := decide_eq_true (by omega)
                rw [if_neg (by omega)] at hRi
                subst hRi
                clear hK0 hK1 b1 b2 b3 b4 r0 r1 c0 c1 hl
                go_wp2
                try rw [hW1]
                go_ret2
                exact ⟨rfl, hQ.out.trans HQ.out⟩
            · have c0B : decide (c < 0) = true := decide_eq_true (by omega)
              rw [if_neg (by omega)] at hRi
              subst hRi
              clear hK0 hK1 b1 b2 b3 b4 r0 r1 c0 hl
              go_wp2
              try rw [hW1]
              go_ret2
              exact ⟨rfl, hQ.out.trans HQ.out⟩
          · have r1B : decide (X ≤ r) = true := decide_eq_true (by omega)
            rw [if_neg (by omega)] at hRi
            subst hRi
            clear hK0 hK1 b1 b2 b3 b4 r0 r1 hl
            go_wp2
            try rw [hW1]
            go_ret2
            exact ⟨rfl, hQ.out.trans HQ.out⟩
        · have r0B : decide (r < 0) = true := decide_eq_true (by omega)
          rw [if_neg (by omega)] at hRi
          subst hRi
          clear hK0 hK1 b1 b2 b3 b4 r0 hl
          go_wp2
          try rw [hW1]
          go_ret2
          exact ⟨rfl, hQ.out.trans HQ.out⟩
    · have hlB : decide ((i : Int) < (d.ws.length : Int)) = false := decide_eq_false (by omega)
      rw [List.drop_eq_nil_of_le (by omega)] at hRi
      have hRn : R = none := hRi
      subst hRn
      have HQ := Lib.hid (hQ.out.trans hQi)
      clear hRi hR hQi hi hK0 hK1
      go_wp2
      go_ret2
      exact ⟨rfl, HQ.out⟩
end Go.Proofs.YtjcpabppklkjpaaDoor

namespace Go.Proofs.YtjcpabppklkjpaaDoor
open Go.RowKit
theorem r8lower_any (n : Nat) (w : World) : Calls Tryd.prog 30 #[.int .u8 (n : Int)] w fun e w' => e = .returned (.bool (lowN n)) ∧ w = w' := by
  unfold lowN
  by_cases c : 97 ≤ n
  · have cB : decide ((97 : Int) ≤ (n : Int)) = true := decide_eq_true (by omega)
    have e2 : decide (n ≤ 122) = decide ((n : Int) ≤ 122) := decide_eq_decide.2 (by omega)
    rw [decide_eq_true c, e2, Bool.true_and]
    go_enter Tryd.func30, Tryd.ntmps30
    go_wp2
    go_ret
    exact ⟨rfl, rfl⟩
  · have cB : decide ((97 : Int) ≤ (n : Int)) = false := decide_eq_false (by omega)
    rw [decide_eq_false c, Bool.false_and]
    go_enter Tryd.func30, Tryd.ntmps30
    go_wp2
    go_ret
    exact ⟨rfl, rfl⟩
theorem r8digit_any (n : Nat) (w : World) : Calls Tryd.prog 31 #[.int .u8 (n : Int)] w fun e w' => e = .returned (.bool (digN n)) ∧ w = w' := by
  unfold digN
  by_cases c : 48 ≤ n
  · have cB : decide ((48 : Int) ≤ (n : Int)) = true := decide_eq_true (by omega)
    have e2 : decide (n ≤ 57) = decide ((n : Int) ≤ 57) := decide_eq_decide.2 (by omega)
    rw [decide_eq_true c, e2, Bool.true_and]
    go_enter Tryd.func31, Tryd.ntmps31
    go_wp2
    go_ret
    exact ⟨rfl, rfl⟩
  · have cB : decide ((48 : Int) ≤ (n : Int)) = false := decide_eq_false (by omega)
    rw [decide_eq_false c, Bool.false_and]
    go_enter Tryd.func31, Tryd.ntmps31
    go_wp2
    go_ret
    exact ⟨rfl, rfl⟩
theorem r8name_any (s : ByteArray) (w : World) : Calls Tryd.prog 20 #[.string s] w fun e w' => e = .returned (.bool (nameS s)) ∧ w = w' := by
  by_cases h1 : s.size < 1
  · have h1B : decide ((s.size : Int) < 1) = true := decide_eq_true (by omega)
    rw [nameS_size (.inl h1)]
    clear h1
    go_enter Tryd.func20, Tryd.ntmps20
    go_wp2
    go_ret
    exact ⟨rfl, rfl⟩
  have h1B : decide ((s.size : Int) < 1) = false := decide_eq_false (by omega)
  by_cases h2 : 16 < s.size
  · have h2B : decide ((16 : Int) < (s.size : Int)) = true := decide_eq_true (by omega)
    rw [nameS_size (.inr h2)]
    clear h1 h2
    go_enter Tryd.func20, Tryd.ntmps20
    go_wp2
    go_ret
    exact ⟨rfl, rfl⟩
  have h2B : decide ((16 : Int) < (s.size : Int)) = false := decide_eq_false (by omega)
  have hz : (0 : Int) < (s.size : Int) := by omega
  have hg0 : ∀ h : 0 < s.size, (s[0]'h).toNat = byteAt s 0 := fun h => byteAt_get s 0 h
  have c0 := fun w => r8lower_any (byteAt s 0) w
  cases h3 : lowN (byteAt s 0)
  · rw [nameS_first h3]
    rw [h3] at c0
    generalize byteAt s 0 = b0 at *
    clear h3
    go_enter Tryd.func20, Tryd.ntmps20
    go_wp2_with fail
    refine (c0 _).mono ?_
    rintro e w1 ⟨rfl, rfl⟩
    go_wp2
    go_ret
    exact ⟨rfl, rfl⟩
  rw [h3] at c0
  have hgood := Lib.hid (fun h => nameS_good (s := s) (by omega) (by omega) h3 h)
  have hbad := @nameS_bad s
  generalize byteAt s 0 = b0 at *
  generalize nameS s = R at *
  clear h3 h1
  go_enter Tryd.func20, Tryd.ntmps20
  go_wp2_with fail
  refine (c0 _).mono ?_
  rintro e w1 ⟨rfl, rfl⟩
  clear c0 hg0
  go_wp2
  go_loopw [3] (fun i wr => ∃ k : Nat, k ≤ s.size ∧ i = .int .i64 k ∧ (∀ j, j < k → (lowN (byteAt s j) || digN (byteAt s j)) = true) ∧ w = wr) (fun i _ => s.size + 1 - (intOf i).toNat)
  case atStart => exact ⟨0, Nat.zero_le _, rfl, fun j hj => by omega, rfl⟩
  case round =>
    obtain ⟨k, hk, rfl, hall, rfl⟩ := hrel
    by_cases hl : k < s.size
    · have hlB : decide ((k : Int) < (s.size : Int)) = true := decide_eq_true (by omega)
      have hlI : (k : Int) < (s.size : Int) := by omega
      have hkB : (0 : Int) ≤ (k : Int) := by omega
      have wk1 : IntKind.i64.wrap ((k : Int) + 1) = (k : Int) + 1 := by rw [IntKind.wrap_i64]; omega
      have hg : ∀ h : k < s.size, (s[k]'h).toNat = byteAt s k := fun h => byteAt_get s k h
      have c1 := fun w => r8lower_any (byteAt s k) w
      have c2 := fun w => r8digit_any (byteAt s k) w
      have hb := hbad hl
      have hnext : (lowN (byteAt s k) || digN (byteAt s k)) = true → ∀ j, j < k + 1 → (lowN (byteAt s j) || digN (byteAt s j)) = true := fun h j hj => by
        by_cases c : j = k
        · subst c; exact h
        · exact hall j (by omega)
      clear hall
      generalize byteAt s k = b at *
      cases h4 : lowN b
      · cases h5 : digN b
        · rw [h4, h5] at hb
          obtain rfl := hb rfl
          rw [h4] at c1
          rw [h5] at c2
          clear hnext h4 h5
          go_wp2_with fail
          refine (c1 _).mono ?_
          rintro e w1 ⟨rfl, rfl⟩
          go_wp2_with fail
          refine (c2 _).mono ?_
          rintro e w1 ⟨rfl, rfl⟩
          go_wp2
          go_ret
          exact ⟨rfl, rfl⟩
        · have HA := Lib.hid (hnext (by rw [h4, h5]; rfl))
          rw [h4] at c1
          rw [h5] at c2
          clear hnext h4 h5 hb
          go_wp2_with fail
          refine (c1 _).mono ?_
          rintro e w1 ⟨rfl, rfl⟩
          go_wp2_with fail
          refine (c2 _).mono ?_
          rintro e w1 ⟨rfl, rfl⟩
          go_wp2
          go_roundw
          case rel => exact ⟨k + 1, by omega, by go_num, HA.out, trivial⟩
          case measure => simp [intOf]; omega
      · have HA := Lib.hid (hnext (by rw [h4]; rfl))
        rw [h4] at c1
        clear hnext h4 hb c2
        go_wp2_with fail
        refine (c1 _).mono ?_
        rintro e w1 ⟨rfl, rfl⟩
        go_wp2
        go_roundw
        case rel => exact ⟨k + 1, by omega, by go_num, HA.out, trivial⟩
        case measure => simp [intOf]; omega
    · have hlB : decide ((k : Int) < (s.size : Int)) = false := decide_eq_false (by omega)
      have HR := Lib.hid (hgood.out (fun i hi => hall i (by omega)))
      clear hall hgood hbad
      go_wp2
      go_ret
      exact ⟨by rw [HR.out]; rfl, rfl⟩
end Go.Proofs.YtjcpabppklkjpaaDoor
