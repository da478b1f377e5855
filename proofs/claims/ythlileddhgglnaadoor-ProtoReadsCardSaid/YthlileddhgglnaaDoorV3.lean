/-
  Wares and tips in memory: a name, three numbers, a shape. No program is named here; Bytes, words, lines of words in memory. No program is named here; Decks as texts: which may be, how they are said, how lines of words are read. No program is named here; Fills, decks in memory. No program is named here; Steps of protocols: which may be, how they are said, how they lie in memory. No program is named here; A number's digits are read as the number. No program is named here; Contract of the document's Dec: a number's digits; Texts put together; Contracts of the document's own names.
-/
import Derived.Laws.OwnMore
import Derived.Laws.BytesArg
import Derived.OwnWalk
import Derived.Test.YthlileddhgglnaaDoorChecked
import Derived.Lib.Hide
import Derived.Lib.ItoaLen
import Derived.Laws.Strings2
import Derived.KernelRfl
import Derived.Test.YthlileddhgglnaaDoorV1
import Derived.Test.YthlileddhgglnaaDoorV2
namespace Go.Proofs.YthlileddhgglnaaDoor
open Go.RowKit
structure Rec where
  n : ByteArray
  x : Int
  y : Int
  z : Int
  l : List Sec
def Rec.cells (r : Rec) (v : Value) : List Value := [.string r.n, .int .i64 r.x, .int .i64 r.y, .int .i64 r.z, v]
structure RecAt (w : World) (p : Addr) (r : Rec) : Prop where
  n : w.cell? p = some (.string r.n)
  x : w.cell? ⟨p.block, p.off + 1, none⟩ = some (.int .i64 r.x)
  y : w.cell? ⟨p.block, p.off + 2, none⟩ = some (.int .i64 r.y)
  z : w.cell? ⟨p.block, p.off + 3, none⟩ = some (.int .i64 r.z)
  l : ∃ v, w.cell? ⟨p.block, p.off + 4, none⟩ = some v ∧ IsSecs w v r.l
theorem RecAt.keepB {w w' : World} {p : Addr} {r : Rec} (h : RecAt w p r) (q : B w w') : RecAt w' p r :=
  ⟨q.keep h.n, q.keep h.x, q.keep h.y, q.keep h.z, let ⟨v, h1, h2⟩ := h.l; ⟨v, q.keep h1, h2.keepB q⟩⟩
/-- A slice of them. -/
def IsRecs (w : World) (v : Value) (L : List Rec) : Prop :=
  (v = .slice none 0 0 ∧ L = []) ∨
  ∃ (a : Addr) (cap : Nat), v = .slice (some a) L.length cap ∧ L.length ≤ cap ∧ cap ≤ maxLen ∧ ∀ i r, L[i]? = some r → RecAt w (a.add (i * 5)) r
theorem IsRecs.keepB {w w' : World} {v : Value} {L : List Rec} (h : IsRecs w v L) (q : B w w') : IsRecs w' v L := by
  rcases h with h | ⟨a, cap, h1, h2, h3, h4⟩
  · exact .inl h
  · exact .inr ⟨a, cap, h1, h2, h3, fun i r hr => (h4 i r hr).keepB q⟩
theorem IsRecs.form {w : World} {v : Value} {L : List Rec} (h : IsRecs w v L) : ∃ ao cap, v = .slice ao L.length cap := by
  rcases h with ⟨rfl, rfl⟩ | ⟨a, cap, rfl, _⟩
  · exact ⟨_, _, rfl⟩
  · exact ⟨_, _, rfl⟩
/-- The cells of a row of them; vs: the shapes' slices. -/
def flatR : List Rec → List Value → List Value
  | r :: L, v :: vs => r.cells v ++ flatR L vs
  | _, _ => []
theorem flatR_get : ∀ (L : List Rec) (vs : List Value) (i j : Nat) (r : Rec) (v : Value), L[i]? = some r → vs[i]? = some v → j < 5 → (flatR L vs)[i * 5 + j]? = (r.cells v)[j]?
  | [], _, _, _, _, _, h, _, _ => by simp at h
  | _ :: _, [], _, _, _, _, _, h, _ => by simp at h
  | r :: L, v :: vs, 0, j, r', v', h, h', hj => by
    simp at h h'
    subst h h'
    rw [Nat.zero_mul, Nat.zero_add]
    show (r.cells v ++ flatR L vs)[j]? = _
    rw [List.getElem?_append_left (by simpa [Rec.cells] using hj)]
  | r :: L, v :: vs, i + 1, j, r', v', h, h', hj => by
    show (r.cells v ++ flatR L vs)[(i + 1) * 5 + j]? = _
    rw [List.getElem?_append_right (by simp [Rec.cells]; omega), show (i + 1) * 5 + j - (r.cells v).length = i * 5 + j by simp [Rec.cells]; omega]
    exact flatR_get L vs i j r' v' (by simpa using h) (by simpa using h') hj
/-- Cells that lie in a row are its records. -/
theorem recs_cells {w : World} {g : Nat} {cap : Nat} {L : List Rec} {vs : List Value} (hv : L.length = vs.length) (h1 : L.length ≤ cap) (h2 : cap ≤ maxLen)
    (hc : ∀ j u, (flatR L vs)[j]? = some u → w.cell? ⟨g, j, none⟩ = some u) (hs : ∀ (i : Nat) (r : Rec) (v : Value), L[i]? = some r → vs[i]? = some v → IsSecs w v r.l) : IsRecs w (.slice (some ⟨g, 0, none⟩) L.length cap) L := by
  refine .inr ⟨⟨g, 0, none⟩, cap, rfl, h1, h2, fun i r hr => ?_⟩
  have hi : i < L.length := (List.getElem?_eq_some_iff.1 hr).1
  obtain ⟨v, hvi⟩ : ∃ v, vs[i]? = some v := ⟨_, List.getElem?_eq_getElem (by omega)⟩
  have k := fun j hj u (hu : (r.cells v)[j]? = some u) => hc (i * 5 + j) u ((flatR_get L vs i j r v hr hvi hj).trans hu)
  rw [add0]
  exact ⟨k 0 (by omega) _ rfl, k 1 (by omega) _ rfl, k 2 (by omega) _ rfl, k 3 (by omega) _ rfl, v, k 4 (by omega) _ rfl, hs i r v hr hvi⟩
theorem recs_own {w : World} {base : Nat} {e : TypeId} {g c k : Nat} {L : List Rec} {vs : List Value} (h : w.ownsRow base e 5 (.slice (some ⟨g, 0, none⟩) k c) k (flatR L vs)) (hk : 0 < k) (hl : L.length = k) (hv : L.length = vs.length)
    (hs : ∀ (i : Nat) (r : Rec) (v : Value), L[i]? = some r → vs[i]? = some v → IsSecs w v r.l) : IsRecs w (.slice (some ⟨g, 0, none⟩) k c) L := by
  have hh := h
  rcases hh.2 with ⟨_, h0⟩ | ⟨g', cap, cur, hg, _, _, h1, h2, _⟩
  · omega
  · simp only [Value.slice.injEq, Option.some.injEq, Addr.mk.injEq] at hg
    obtain ⟨⟨rfl, _⟩, _, rfl⟩ := hg
    subst hl
    exact recs_cells hv h1 h2 (fun j u hj => by have := h.cells rfl j u hj; rwa [add0] at this) hs
theorem IsRecs.at_ {w : World} {v : Value} {L : List Rec} (h : IsRecs w v L) {i : Nat} (hi : i < L.length) : ∃ (a : Addr) (cap : Nat), v = .slice (some a) L.length cap ∧ L.length ≤ cap ∧ cap ≤ maxLen ∧ RecAt w (a.add (i * 5)) L[i] := by
  rcases h with ⟨_, rfl⟩ | ⟨a, cap, h1, h2, h3, h4⟩
  · simp at hi
  · exact ⟨a, cap, h1, h2, h3, h4 i _ (List.getElem?_eq_getElem hi)⟩
/-- What is owned stays, where nothing that was there turns. -/
theorem ownsRow_keepB {w w' : World} {base : Nat} {e : TypeId} {size n : Nat} {v : Value} {xs : List Value} (h : w.ownsRow base e size v n xs) (q : B w w') : w'.ownsRow base e size v n xs :=
  h.kept (row := none) ⟨q.below.os, q.below.tape, q.below.output, q.below.size, fun k hk _ => q.below.block k hk⟩ (by cases v.ownBlock <;> simp)
/-- Slots of a drawn region: shapes in blocks from k on. -/
def SecsV (k : Nat) (l : List Sec) : Value → World → Prop := fun v w => ∃ o n p, v = .slice o n p ∧ IsSecs w (.slice o n p) l ∧ ∀ b, (Value.slice o n p).ownBlock = some b → k ≤ b ∧ b < w.heap.size
theorem slot_secs (k : Nat) (l : List Sec) : Slot.stays (SecsV k l) := fun _ _ _ ⟨o, n, p, h1, h2, h3⟩ q => ⟨o, n, p, h1, h2.keepB q, fun b hb => ⟨(h3 b hb).1, Nat.lt_of_lt_of_le (h3 b hb).2 q.below.size⟩⟩
def RecV (k : Nat) (r : Rec) : Value → World → Prop := fun v w => ∃ o n p, v = .agg #[.string r.n, .int .i64 r.x, .int .i64 r.y, .int .i64 r.z, .slice o n p] ∧ IsSecs w (.slice o n p) r.l ∧ ∀ b, (Value.slice o n p).ownBlock = some b → k ≤ b ∧ b < w.heap.size
theorem slot_rec (k : Nat) (r : Rec) : Slot.stays (RecV k r) := fun _ _ _ ⟨o, n, p, h1, h2, h3⟩ q => ⟨o, n, p, h1, h2.keepB q, fun b hb => ⟨(h3 b hb).1, Nat.lt_of_lt_of_le (h3 b hb).2 q.below.size⟩⟩
def RecRow (k : Nat) (r : Rec) : Value → World → Prop := fun v w => ∃ b o n p, v = .slice (some ⟨b, 0, none⟩) 1 1 ∧ (∀ j u, (r.cells (.slice o n p))[j]? = some u → w.cell? ⟨b, j, none⟩ = some u) ∧ IsSecs w (.slice o n p) r.l ∧ ∀ b, (Value.slice o n p).ownBlock = some b → k ≤ b ∧ b < w.heap.size
theorem slot_recrow (k : Nat) (r : Rec) : Slot.stays (RecRow k r) := fun _ _ _ ⟨b, o, n, p, h1, h2, h3, h4⟩ q => ⟨b, o, n, p, h1, fun j u hj => q.keep (h2 j u hj), h3.keepB q, fun b hb => ⟨(h4 b hb).1, Nat.lt_of_lt_of_le (h4 b hb).2 q.below.size⟩⟩
theorem secs_lt {w : World} {v : Value} {l : List Sec} (h : IsSecs w v l) (hl : 1 ≤ l.length) {b : Nat} (hb : v.ownBlock = some b) : b < w.heap.size := by
  rcases h with ⟨rfl, rfl⟩ | ⟨a, cap, rfl, h2, h3, h4⟩
  · simp at hl
  · have e : a.block = b := Option.some.inj hb
    obtain ⟨s, hs⟩ : ∃ s, l[0]? = some s := ⟨_, List.getElem?_eq_getElem (by omega)⟩
    have := World.block_lt_of_cell? w _ (h4 0 s hs).2.r
    have e2 : (a.add (0 * 6)).block = a.block := by unfold Addr.add; split <;> rfl
    omega
/-- Sections whose block doesn't turn. -/
theorem isSecs_keepOwn {S : Nat → Prop} {w w' : World} {v : Value} {l : List Sec} (h : IsSecs w v l) (hS : ∀ b, v.ownBlock = some b → ¬ S b) (q : G S w w') : IsSecs w' v l := by
  rcases h with ⟨rfl, rfl⟩ | ⟨a, cap, rfl, h2, h3, h4⟩
  · exact .inl ⟨rfl, rfl⟩
  · refine .inr ⟨a, cap, rfl, h2, h3, fun i s hs => ⟨(h4 i s hs).1, ?_⟩⟩
    obtain ⟨f0, f1, f2, f3, f4, f5⟩ := (h4 i s hs).2
    have hb : ¬ S (a.add (i * 6)).block := by
      have e : (a.add (i * 6)).block = a.block := by unfold Addr.add; split <;> rfl
      rw [e]
      exact hS _ rfl
    exact ⟨q.keep hb f0, q.keep hb f1, q.keep hb f2, q.keep hb f3, q.keep hb f4, q.keep hb f5⟩
theorem B.obj {w w' : World} (h : B w w') {b : Nat} {o : Obj} (ho : w.heap[b]? = some o) : w'.heap[b]? = some o :=
  (h.below.block b (Array.getElem?_eq_some_iff.1 ho).1).trans ho
theorem spot_none {w : World} {p : Addr} {s : ByteArray} (h : w.cell? p = some (.string s)) : p.spot = none := by
  cases hsp : p.spot with
  | none => rfl
  | some x =>
    unfold World.cell? at h
    split at h
    · simp [hsp] at h
    · cases h
/-- Records lie in no block of S, if no cell of these is a string or a bool. -/
theorem isRecs_keepG {S : Nat → Prop} {w w' : World} {v : Value} {L : List Rec} (h : IsRecs w v L) (hS : ∀ i, S i → ∀ k, (∀ r, w.cell? ⟨i, k, none⟩ ≠ some (.bool r)) ∧ ∀ s, w.cell? ⟨i, k, none⟩ ≠ some (.string s)) (q : G S w w') : IsRecs w' v L := by
  rcases h with ⟨rfl, rfl⟩ | ⟨a, cap, rfl, h2, h3, h4⟩
  · exact .inl ⟨rfl, rfl⟩
  · refine .inr ⟨a, cap, rfl, h2, h3, fun i r hr => ?_⟩
    obtain ⟨f0, f1, f2, f3, v, f4, f5⟩ := h4 i r hr
    have hsp := spot_none f0
    have hb : ¬ S (a.add (i * 5)).block := fun hs' => by
      refine (hS _ hs' (a.add (i * 5)).off).2 r.n ?_
      rw [← f0]
      congr 1
      rw [← hsp]
    exact ⟨q.keep hb f0, q.keep hb f1, q.keep hb f2, q.keep hb f3, v, q.keep hb f4, isSecs_keepG f5 (fun i hi k r => (hS i hi k).1 r) q⟩
/-- Three cells of one block written. -/
theorem g_three (w : World) (b : Nat) (x y z : Value) : G (fun i => i = b) w (((w.setCell ⟨b, 0, none⟩ x).setCell ⟨b, 1, none⟩ y).setCell ⟨b, 2, none⟩ z) :=
  G.setCell (S := fun i => i = b) (p := ⟨b, 2, none⟩) (G.setCell (S := fun i => i = b) (p := ⟨b, 1, none⟩) (G.setCell (S := fun i => i = b) (p := ⟨b, 0, none⟩) (G.refl _ _) (.inl rfl) _) (.inl rfl) _) (.inl rfl) _
theorem b_three {u w : World} (h : B u w) {b : Nat} (hb : u.heap.size ≤ b) (x y z : Value) : B u (((w.setCell ⟨b, 0, none⟩ x).setCell ⟨b, 1, none⟩ y).setCell ⟨b, 2, none⟩ z) :=
  B.setCell (p := ⟨b, 2, none⟩) (B.setCell (p := ⟨b, 1, none⟩) (B.setCell (p := ⟨b, 0, none⟩) h hb _) hb _) hb _
theorem obj_three {w : World} {b : Nat} {x0 y0 z0 : Value} {t : TypeId} (h : w.heap[b]? = some (.cells #[x0, y0, z0] t (0, 0))) (x y z : Value) :
    (((w.setCell ⟨b, 0, none⟩ x).setCell ⟨b, 1, none⟩ y).setCell ⟨b, 2, none⟩ z).heap[b]? = some (.cells #[x, y, z] t (0, 0)) := by
  have := obj_set (obj_set (obj_set h 0 x) 1 y) 2 z
  simpa using this
end Go.Proofs.YthlileddhgglnaaDoor

namespace Go.Proofs.YthlileddhgglnaaDoor
open Go.RowKit
/-- Bytes lie in block b, from place o on. -/
def BAt (w : World) (b o : Nat) (bs : List UInt8) : Prop := ∀ i c, bs[i]? = some c → w.cell? ⟨b, o + i, none⟩ = some (.int .u8 ((c.toNat : Nat) : Int))
theorem BAt.keep {w w' : World} {b o : Nat} {bs : List UInt8} (h : BAt w b o bs) (q : B w w') : BAt w' b o bs := fun i c hc => q.keep (h i c hc)
/-- The header of a slice of bytes. -/
structure IsB (w : World) (ao : Option Addr) (cap b o : Nat) (bs : List UInt8) : Prop where
  at_ : BAt w b o bs
  ao : 0 < bs.length → ao = some ⟨b, o, none⟩
  le : bs.length ≤ cap
  max : cap ≤ maxLen
theorem IsB.keep {w w' : World} {ao : Option Addr} {cap b o : Nat} {bs : List UInt8} (h : IsB w ao cap b o bs) (q : B w w') : IsB w' ao cap b o bs := ⟨h.at_.keep q, h.ao, h.le, h.max⟩
/-- Numbers of bytes, as the library's contracts want them. -/
def nums (bs : List UInt8) : List Int := bs.map fun c => ((c.toNat : Nat) : Int)
theorem nums_len (bs : List UInt8) : (nums bs).length = bs.length := by simp [nums]
theorem nums_get (bs : List UInt8) (i : Nat) (c : UInt8) (h : bs[i]? = some c) : (nums bs).getD i 0 = ((c.toNat : Nat) : Int) := by
  unfold nums
  rw [List.getD_eq_getElem?_getD, List.getElem?_map, h]
  rfl
theorem bytes_nums (bs : List UInt8) : (nums bs).map (fun n => UInt8.ofNat n.toNat) = bs := by
  unfold nums
  rw [List.map_map]
  conv => rhs; rw [← List.map_id bs]
  apply List.map_congr_left
  intro c _
  simp
theorem BAt.nums {w : World} {b o n : Nat} {bs : List UInt8} (h : BAt w b o bs) (hn : bs.length = n) : ∀ i, i < n → w.cell? ⟨b, o + i, none⟩ = some (.int .u8 ((nums bs).getD i 0)) := fun i hi => by
  have hg : bs[i]? = some bs[i] := List.getElem?_eq_getElem (by omega)
  rw [nums_get bs i _ hg]
  exact h i _ hg
theorem BAt.drop {w : World} {b o : Nat} {bs : List UInt8} (h : BAt w b o bs) (k : Nat) : BAt w b (o + k) (bs.drop k) := fun i c hc => by
  rw [List.getElem?_drop] at hc
  rw [Nat.add_assoc]
  exact h _ _ hc
theorem BAt.take {w : World} {b o : Nat} {bs : List UInt8} (h : BAt w b o bs) (k : Nat) : BAt w b o (bs.take k) := fun i c hc => by
  rw [List.getElem?_take] at hc
  split at hc
  · exact h _ _ hc
  · cases hc
/-- A string of bytes. -/
def strB (l : List UInt8) : ByteArray := ⟨l.toArray⟩
theorem strB_size (l : List UInt8) : (strB l).size = l.length := by simp [strB, ByteArray.size]
theorem strB_nums (l : List UInt8) : strOfNums (nums l) = strB l := by
  unfold strOfNums strB
  rw [bytes_nums]
/-- The cells of words. -/
def flatW (ws : List Wd) : List Value := ws.flatMap fun x => [.int .i64 ((x.1 : Nat) : Int), .string (strB x.2)]
theorem flatW_len (ws : List Wd) : (flatW ws).length = ws.length * 2 := by
  induction ws with
  | nil => rfl
  | cons x l ih =>
    show ([_, _] ++ flatW l).length = _
    rw [List.length_append, ih, List.length_cons]
    simp
    omega
theorem flatW_get : ∀ (ws : List Wd) (i : Nat) (x : Wd), ws[i]? = some x → (flatW ws)[i * 2]? = some (.int .i64 ((x.1 : Nat) : Int)) ∧ (flatW ws)[i * 2 + 1]? = some (.string (strB x.2))
  | [], _, _, h => by simp at h
  | y :: l, 0, x, h => by
    simp at h; subst h; exact ⟨rfl, rfl⟩
  | y :: l, i + 1, x, h => by
    have ih := flatW_get l i x (by simpa using h)
    constructor
    · show ([_, _] ++ flatW l)[(i + 1) * 2]? = _
      rw [List.getElem?_append_right (by simp; omega), show (i + 1) * 2 - ([_, _] : List Value).length = i * 2 by simp; omega]
      exact ih.1
    · show ([_, _] ++ flatW l)[(i + 1) * 2 + 1]? = _
      rw [List.getElem?_append_right (by simp; omega), show (i + 1) * 2 + 1 - ([_, _] : List Value).length = i * 2 + 1 by simp; omega]
      exact ih.2
theorem flatW_snoc (ws : List Wd) (x : Wd) : flatW (ws ++ [x]) = flatW ws ++ [.int .i64 ((x.1 : Nat) : Int), .string (strB x.2)] := by simp [flatW]
theorem flatW_one (ws : List Wd) : ∀ u ∈ flatW ws, u.oneCell' = true := by
  intro u hu
  obtain ⟨x, _, hx⟩ := List.mem_flatMap.1 hu
  simp only [List.mem_cons, List.not_mem_nil, or_false] at hx
  rcases hx with h | h <;> rw [h] <;> rfl
/-- Words in memory. -/
def IsWords (w : World) (v : Value) (ws : List Wd) : Prop :=
  (v = .slice none 0 0 ∧ ws = []) ∨
  ∃ g cap, v = .slice (some ⟨g, 0, none⟩) ws.length cap ∧ ws.length ≤ cap ∧ cap ≤ maxLen ∧ ∀ i x, ws[i]? = some x → w.cell? ⟨g, i * 2, none⟩ = some (.int .i64 ((x.1 : Nat) : Int)) ∧ w.cell? ⟨g, i * 2 + 1, none⟩ = some (.string (strB x.2))
theorem IsWords.form {w : World} {v : Value} {ws : List Wd} (h : IsWords w v ws) : ∃ ao cap, v = .slice ao ws.length cap := by
  rcases h with ⟨rfl, rfl⟩ | ⟨g, cap, rfl, _⟩ <;> exact ⟨_, _, rfl⟩
theorem IsWords.full {w : World} {v : Value} {ws : List Wd} (h : IsWords w v ws) (hw : 0 < ws.length) : ∃ g cap, v = .slice (some ⟨g, 0, none⟩) ws.length cap ∧ ws.length ≤ cap ∧ cap ≤ maxLen ∧ g < w.heap.size ∧ ∀ i x, ws[i]? = some x → w.cell? ⟨g, i * 2, none⟩ = some (.int .i64 ((x.1 : Nat) : Int)) ∧ w.cell? ⟨g, i * 2 + 1, none⟩ = some (.string (strB x.2)) := by
  rcases h with ⟨rfl, rfl⟩ | ⟨g, cap, h1, h2, h3, h4⟩
  · simp at hw
  · exact ⟨g, cap, h1, h2, h3, World.block_lt_of_cell? w _ (h4 0 _ (List.getElem?_eq_getElem hw)).1, h4⟩
/-- Words stay where their block stays. -/
theorem IsWords.block {w w' : World} {v : Value} {ws : List Wd} (h : IsWords w v ws) (hb : ∀ b, v.ownBlock = some b → b < w.heap.size → w'.heap[b]? = w.heap[b]?) : IsWords w' v ws := by
  rcases h with h | ⟨g, cap, rfl, h2, h3, h4⟩
  · exact .inl h
  · refine .inr ⟨g, cap, rfl, h2, h3, fun i x hx => ?_⟩
    obtain ⟨k1, k2⟩ := h4 i x hx
    have hlt := World.block_lt_of_cell? w _ k1
    have e := hb g rfl hlt
    exact ⟨(World.cell?_of_block (a := ⟨g, i * 2, none⟩) e).trans k1, (World.cell?_of_block (a := ⟨g, i * 2 + 1, none⟩) e).trans k2⟩
theorem IsWords.keep {w w' : World} {v : Value} {ws : List Wd} (h : IsWords w v ws) (q : B w w') : IsWords w' v ws := h.block fun b _ hlt => q.below.block b hlt
theorem words_own {w : World} {base : Nat} {e : TypeId} {ao : Option Addr} {k c : Nat} {ws : List Wd} (h : w.ownsRow base e 2 (.slice ao k c) k (flatW ws)) (hl : ws.length = k) : IsWords w (.slice ao k c) ws := by
  have hh := h
  rcases hh.2 with ⟨h0, h1⟩ | ⟨g, cap, cur, hv, _, _, h1, h2, _⟩
  · refine .inl ⟨h0, ?_⟩
    simp only [Value.slice.injEq] at h0
    exact List.length_eq_zero_iff.1 (by omega)
  · simp only [Value.slice.injEq] at hv
    obtain ⟨rfl, _, rfl⟩ := hv
    subst hl
    refine .inr ⟨g, c, rfl, h1, h2, fun i x hx => ?_⟩
    have hi : i < ws.length := (List.getElem?_eq_some_iff.1 hx).1
    obtain ⟨k1, k2⟩ := flatW_get ws i x hx
    exact ⟨(h.cellAt (i * 2) (by omega)).trans k1, (h.cellAt (i * 2 + 1) (by omega)).trans k2⟩
/-- Lines of words, in a row that the call owns. -/
structure LinesO (w : World) (base : Nat) (e : TypeId) (v : Value) (LL : List (List Wd)) (vs : List Value) : Prop where
  own : w.ownsRow base e 1 v LL.length vs
  row : ∀ (j : Nat) u L, vs[j]? = some u → LL[j]? = some L → IsWords w u L ∧ ∃ b, u.ownBlock = some b ∧ v.ownBlock ≠ some b ∧ b < w.heap.size ∧ base ≤ b
theorem LinesO.nil (w : World) (base : Nat) (e : TypeId) : LinesO w base e (.slice none 0 0) [] [] := ⟨World.ownsRow_nil _ _ _ _, fun j u L h => by simp at h⟩
theorem lines_keep {w w' : World} {base : Nat} {e : TypeId} {v : Value} {LL : List (List Wd)} {vs : List Value} (h : LinesO w base e v LL vs) {row : Option Nat} (q : w.grownBy w' row)
    (hv : ∀ b, row = some b → v.ownBlock ≠ some b) (hs : ∀ b, row = some b → ∀ u ∈ vs, u.ownBlock ≠ some b) : LinesO w' base e v LL vs := by
  refine ⟨h.own.kept (row := row) q ?_, fun j u L hu hL => ?_⟩
  · cases hb : v.ownBlock with
    | none => exact .inl rfl
    | some b => exact .inr fun e => hv b e.symm hb
  · obtain ⟨h1, b, h2, h3, h4, h5⟩ := h.row j u L hu hL
    exact ⟨h1.block fun b' hb' hlt => q.block b' hlt (fun e => hs b' e.symm u (List.mem_of_getElem? hu) hb'), b, h2, h3, Nat.lt_of_lt_of_le h4 q.size, h5⟩
theorem B.none {w w' : World} (q : B w w') : w.grownBy w' none := ⟨q.below.os, q.below.tape, q.below.output, q.below.size, fun k hk _ => q.below.block k hk⟩
theorem row_keep {w w' : World} {base : Nat} {e : TypeId} {size n : Nat} {v : Value} {xs : List Value} (h : w.ownsRow base e size v n xs) (q : B w w') : w'.ownsRow base e size v n xs :=
  h.kept (row := none) q.none (by cases v.ownBlock <;> simp)
theorem addz (b j : Nat) : (⟨b, 0, none⟩ : Addr).add j = ⟨b, j, none⟩ := by unfold Addr.add; split <;> simp_all
/-- Cells of a new block. -/
theorem newest {w : World} {cs : Array Value} {t : TypeId} {H : Nat} (hH : w.heap.size = H) : ∀ j u, cs.toList[j]? = some u → (w.alloc (.cells cs t)).cell? ((⟨H, 0, none⟩ : Addr).add j) = some u := by
  intro j u h
  rw [addz]
  subst hH
  rw [World.cell?_alloc_new]
  simpa using h
theorem info_of {P : Program} {t : TypeId} {z : Value} {s b : Nat} (h : (P.info? t).map (fun i => (i.zero, i.size, i.bytes)) = some (some z, s, b)) : ∃ i, P.info? t = some i ∧ i.zero = some z ∧ i.size = s ∧ i.bytes = b := by
  cases hi : P.info? t with
  | none => rw [hi] at h; cases h
  | some i => rw [hi] at h; simp at h; exact ⟨i, rfl, h.1, h.2.1, h.2.2⟩
theorem LinesO.keep {w w' : World} {base : Nat} {e : TypeId} {v : Value} {LL : List (List Wd)} {vs : List Value} (h : LinesO w base e v LL vs) (q : B w w') : LinesO w' base e v LL vs :=
  lines_keep h q.none (fun b hb => by cases hb) (fun b hb => by cases hb)
theorem LinesO.len {w : World} {base : Nat} {e : TypeId} {v : Value} {LL : List (List Wd)} {vs : List Value} (h : LinesO w base e v LL vs) : vs.length = LL.length := by
  have := h.own.1
  omega
/-- A line more. -/
theorem lines_more {w1 w2 : World} {base : Nat} {e : TypeId} {v : Value} {LL : List (List Wd)} {vs : List Value} {g cap : Nat} {u : Value} {L : List Wd} (h : LinesO w1 base e v LL vs)
    (own : w2.ownsRow base e 1 (.slice (some ⟨g, 0, none⟩) (LL.length + 1) cap) (LL.length + 1) (vs ++ [u])) (q : w1.grownBy w2 v.ownBlock) (hat : v.ownBlock = some g ∨ g = w1.heap.size)
    (hu : IsWords w1 u L) {b : Nat} (hb : u.ownBlock = some b) (hvb : v.ownBlock ≠ some b) (hlt : b < w1.heap.size) (hbase : base ≤ b) :
    LinesO w2 base e (.slice (some ⟨g, 0, none⟩) (LL ++ [L]).length cap) (LL ++ [L]) (vs ++ [u]) := by
  have hlen := h.len
  have key : ∀ (u : Value) (L : List Wd), IsWords w1 u L → (∃ b, u.ownBlock = some b ∧ v.ownBlock ≠ some b ∧ b < w1.heap.size ∧ base ≤ b) → IsWords w2 u L ∧ ∃ b, u.ownBlock = some b ∧ (Value.slice (some ⟨g, 0, none⟩) (LL ++ [L]).length cap).ownBlock ≠ some b ∧ b < w2.heap.size ∧ base ≤ b := by
    intro u L hu ⟨b, hb, hvb, hlt, hba⟩
    refine ⟨hu.block fun b' hb' hlt' => q.block b' hlt' (fun e => ?_), b, hb, fun e => ?_, Nat.lt_of_lt_of_le hlt q.size, hba⟩
    · rw [hb] at hb'
      cases hb'
      exact hvb e.symm
    · have hg : g = b := Option.some.inj e
      rcases hat with hat | hat
      · exact hvb (hat.trans (congrArg some hg))
      · omega
  have elen : (LL ++ [L]).length = LL.length + 1 := by simp
  refine ⟨elen ▸ own, fun j x M hx hM => ?_⟩
  rcases Nat.lt_or_ge j LL.length with hj | hj
  · rw [List.getElem?_append_left (by omega)] at hx hM
    obtain ⟨h1, h2⟩ := h.row j x M hx hM
    have := key x M h1 h2
    exact this
  · have hj' : j = LL.length := by
      have := (List.getElem?_eq_some_iff.1 hM).1
      simp at this
      omega
    subst hj'
    rw [List.getElem?_append_right (by omega)] at hx hM
    simp only [Nat.sub_self, List.getElem?_cons_zero, Option.some.injEq] at hM
    rw [show LL.length - vs.length = 0 by omega] at hx
    simp only [List.getElem?_cons_zero, Option.some.injEq] at hx
    subst hx hM
    exact key _ _ hu ⟨b, hb, hvb, hlt, hbase⟩
/-- Lines of words in memory. -/
def IsLines (w : World) (v : Value) (LL : List (List Wd)) : Prop :=
  (v = .slice none 0 0 ∧ LL = []) ∨
  ∃ g cap, v = .slice (some ⟨g, 0, none⟩) LL.length cap ∧ LL.length ≤ cap ∧ cap ≤ maxLen ∧ ∀ i L, LL[i]? = some L → ∃ u, w.cell? ⟨g, i, none⟩ = some u ∧ IsWords w u L
theorem IsLines.keep {w w' : World} {v : Value} {LL : List (List Wd)} (h : IsLines w v LL) (q : B w w') : IsLines w' v LL := by
  rcases h with h | ⟨g, cap, h1, h2, h3, h4⟩
  · exact .inl h
  · exact .inr ⟨g, cap, h1, h2, h3, fun i L hL => by obtain ⟨u, k1, k2⟩ := h4 i L hL; exact ⟨u, q.keep k1, k2.keep q⟩⟩
theorem IsLines.form {w : World} {v : Value} {LL : List (List Wd)} (h : IsLines w v LL) : ∃ ao cap, v = .slice ao LL.length cap := by
  rcases h with ⟨rfl, rfl⟩ | ⟨g, cap, rfl, _⟩ <;> exact ⟨_, _, rfl⟩
theorem LinesO.is {w : World} {base : Nat} {e : TypeId} {v : Value} {LL : List (List Wd)} {vs : List Value} (h : LinesO w base e v LL vs) : IsLines w v LL := by
  have hown := h.own
  rcases hown.2 with ⟨h0, h1⟩ | ⟨g, cap, cur, rfl, _, _, h1, h2, _⟩
  · exact .inl ⟨h0, List.length_eq_zero_iff.1 (by omega)⟩
  · refine .inr ⟨g, cap, rfl, h1, h2, fun i L hL => ?_⟩
    have hi : i < LL.length := (List.getElem?_eq_some_iff.1 hL).1
    have hlen := h.len
    have hu : vs[i]? = some vs[i] := List.getElem?_eq_getElem (by omega)
    exact ⟨_, (hown.cellAt i (by omega)).trans hu, (h.row i _ L hu hL).1⟩
end Go.Proofs.YthlileddhgglnaaDoor

namespace Go.Proofs.YthlileddhgglnaaDoor
open Go.RowKit
/-- A ware, a tip: a name, three numbers, a shape. -/
abbrev Wr := Rec
/-- A fill: a well's ware, row, column; how much. -/
structure Fl where
  n : ByteArray
  r : Int
  c : Int
  v : Int
structure Dk where
  ws : List Wr
  ts : List Wr
  fs : List Fl
def dk0 : Dk := ⟨[], [], []⟩
/-- Of a text: a well's name, row, column. -/
def wellL (l : List UInt8) : Option (List UInt8 × Nat × Nat) :=
  let n := l.takeWhile fun c => decide (c.toNat ≠ 46)
  match l.drop (n.length + 1) with
  | [] => none
  | r :: ds => if nameS (strB n) = true ∧ 65 ≤ r.toNat ∧ r.toNat ≤ 72 ∧ numOk (strB ds) = true ∧ 1 ≤ numV (strB ds) ∧ numV (strB ds) ≤ 12 then some (n, r.toNat - 65, numV (strB ds) - 1) else none
/-- A section more: of the last ware, of the last tip. -/
def moreR (w : Wr) (s : Sec) : Wr := { w with l := w.l ++ [s] }
def moreW : List Wr → Sec → List Wr
  | [], _ => []
  | [w], s => [moreR w s]
  | w :: ws, s => w :: moreW ws s
def Dk.add (d : Dk) (o : Nat) (s : Sec) : Dk := if o = 1 then { d with ws := moreW d.ws s } else if o = 2 then { d with ts := moreW d.ts s } else d
/-- A number's digits. -/
def decI (x : Int) : List UInt8 := Lib.decDigits x.toNat
/-- A well's text. -/
def wellT (n : ByteArray) (r c : Int) : List UInt8 := if nameS n = true ∧ 0 ≤ r ∧ r < 8 ∧ 0 ≤ c ∧ c < 12 then n.data.toList ++ [46, UInt8.ofNat (65 + r.toNat)] ++ decI (c + 1) else []
/-- A line's text: words with one blank between, a line feed behind. -/
def lineT : List (List UInt8) → List UInt8
  | [] => [10]
  | [w] => w ++ [10]
  | w :: ws => w ++ 32 :: lineT ws
end Go.Proofs.YthlileddhgglnaaDoor

namespace Go.Proofs.YthlileddhgglnaaDoor
open Go.RowKit
structure FlAt (w : World) (p : Addr) (f : Fl) : Prop where
  n : w.cell? p = some (.string f.n)
  r : w.cell? ⟨p.block, p.off + 1, none⟩ = some (.int .i64 f.r)
  c : w.cell? ⟨p.block, p.off + 2, none⟩ = some (.int .i64 f.c)
  v : w.cell? ⟨p.block, p.off + 3, none⟩ = some (.int .i64 f.v)
theorem FlAt.keepB {w w' : World} {p : Addr} {f : Fl} (h : FlAt w p f) (q : B w w') : FlAt w' p f := ⟨q.keep h.n, q.keep h.r, q.keep h.c, q.keep h.v⟩
def IsFls (w : World) (v : Value) (L : List Fl) : Prop :=
  (v = .slice none 0 0 ∧ L = []) ∨
  ∃ (a : Addr) (cap : Nat), v = .slice (some a) L.length cap ∧ L.length ≤ cap ∧ cap ≤ maxLen ∧ ∀ i f, L[i]? = some f → FlAt w (a.add (i * 4)) f
theorem IsFls.keepB {w w' : World} {v : Value} {L : List Fl} (h : IsFls w v L) (q : B w w') : IsFls w' v L := by
  rcases h with h | ⟨a, cap, h1, h2, h3, h4⟩
  · exact .inl h
  · exact .inr ⟨a, cap, h1, h2, h3, fun i f hf => (h4 i f hf).keepB q⟩
theorem IsFls.form {w : World} {v : Value} {L : List Fl} (h : IsFls w v L) : ∃ ao cap, v = .slice ao L.length cap := by
  rcases h with ⟨rfl, rfl⟩ | ⟨a, cap, rfl, _⟩
  · exact ⟨_, _, rfl⟩
  · exact ⟨_, _, rfl⟩
theorem IsFls.at_ {w : World} {v : Value} {L : List Fl} (h : IsFls w v L) {i : Nat} (hi : i < L.length) : ∃ (a : Addr) (cap : Nat), v = .slice (some a) L.length cap ∧ L.length ≤ cap ∧ cap ≤ maxLen ∧ FlAt w (a.add (i * 4)) L[i] := by
  rcases h with ⟨_, rfl⟩ | ⟨a, cap, h1, h2, h3, h4⟩
  · simp at hi
  · exact ⟨a, cap, h1, h2, h3, h4 i _ (List.getElem?_eq_getElem hi)⟩
/-- A deck in memory: its three slices. -/
structure IsDk (w : World) (wv tv fv : Value) (d : Dk) : Prop where
  ws : IsRecs w wv d.ws
  ts : IsRecs w tv d.ts
  fs : IsFls w fv d.fs
theorem IsDk.keepB {w w' : World} {wv tv fv : Value} {d : Dk} (h : IsDk w wv tv fv d) (q : B w w') : IsDk w' wv tv fv d := ⟨h.ws.keepB q, h.ts.keepB q, h.fs.keepB q⟩
theorem len_max {n : Nat} {cap : Nat} (h : n ≤ cap) (h2 : cap ≤ maxLen) : n ≤ 9223372036854775807 := by unfold maxLen at h2; omega
theorem IsRecs.len {w : World} {v : Value} {L : List Rec} (h : IsRecs w v L) : L.length ≤ 9223372036854775807 := by
  rcases h with ⟨_, rfl⟩ | ⟨a, cap, _, h2, h3, _⟩
  · simp
  · exact len_max h2 h3
theorem IsFls.len {w : World} {v : Value} {L : List Fl} (h : IsFls w v L) : L.length ≤ 9223372036854775807 := by
  rcases h with ⟨_, rfl⟩ | ⟨a, cap, _, h2, h3, _⟩
  · simp
  · exact len_max h2 h3
theorem secs_form {w : World} {v : Value} {l : List Sec} (h : IsSecs w v l) : ∃ ao cap, v = .slice ao l.length cap := by
  rcases h with ⟨rfl, rfl⟩ | ⟨a, cap, rfl, _⟩
  · exact ⟨_, _, rfl⟩
  · exact ⟨_, _, rfl⟩
end Go.Proofs.YthlileddhgglnaaDoor

namespace Go.Proofs.YthlileddhgglnaaDoor
open Go.RowKit
set_option linter.unusedVariables false
/-- A well: a ware's name, row, column. -/
structure Wp where
  n : ByteArray
  r : Int
  c : Int
/-- A step: its kind, a name, wells, a volume, a number. -/
structure Sp where
  k : Int
  n : ByteArray
  w : List Wp
  v : Int
  m : Int
def Wp.t (p : Wp) : List UInt8 := wellT p.n p.r p.c
def wellsOk (l : List Wp) : Bool := l.all fun p => !p.t.isEmpty
def stepK (s : Sp) : Bool :=
  if s.k = 0 then nameS s.n && decide (s.w.length = 0) && decide (s.v = 0) && decide (s.m = 0)
  else if s.k = 1 then (s.n.toList == []) && decide (s.w.length = 0) && decide (s.v = 0) && (decide (s.m = 0) || decide (s.m = 1))
  else if s.k = 5 then (s.n.toList == []) && decide (s.w.length = 1) && inB s.v 1 20000000 && inB s.m 1 20
  else if s.k = 2 ∨ s.k = 3 ∨ s.k = 4 ∨ s.k = 6 then (s.n.toList == []) && decide (s.m = 0) && inB s.v 1 20000000 && decide (2 ≤ s.w.length) && decide (s.w.length ≤ 96) && (decide (s.k ≠ 2) || decide (s.w.length = 2))
  else false
/-- Which steps may be. -/
def stepOk (s : Sp) : Bool := wellsOk s.w && stepK s
def stepsOk (l : List Sp) : Bool := decide (l.length ≤ 200) && l.all stepOk
def kUse : List UInt8 := [117, 115, 101]
def kFresh : List UInt8 := [102, 114, 101, 115, 104]
def kTransfer : List UInt8 := [116, 114, 97, 110, 115, 102, 101, 114]
def kSpread : List UInt8 := [115, 112, 114, 101, 97, 100]
def kGather : List UInt8 := [103, 97, 116, 104, 101, 114]
def kMix : List UInt8 := [109, 105, 120]
def kDilute : List UInt8 := [100, 105, 108, 117, 116, 101]
def kOnce : List UInt8 := [111, 110, 99, 101]
def kEach : List UInt8 := [101, 97, 99, 104]
/-- A kind's word. -/
def kindW (k : Int) : List UInt8 := if k = 0 then kUse else if k = 1 then kFresh else if k = 2 then kTransfer else if k = 3 then kSpread else if k = 4 then kGather else if k = 5 then kMix else kDilute
/-- The words behind it. -/
def stepW (s : Sp) : List (List UInt8) :=
  if s.k = 0 then [s.n.data.toList]
  else if s.k = 1 then [if s.m = 0 then kOnce else kEach]
  else if s.k = 6 then decI s.v :: s.w.map Wp.t
  else if s.k = 2 then s.w.map Wp.t ++ [decI s.v]
  else if s.k = 5 then s.w.map Wp.t ++ [decI s.v, decI s.m]
  else (s.w.take 1).map Wp.t ++ [decI s.v] ++ (s.w.drop 1).map Wp.t
def stepL (s : Sp) : List (List UInt8) := kindW s.k :: stepW s
def stepsT (l : List Sp) : List UInt8 := if stepsOk l then l.flatMap fun s => lineT (stepL s) else []
structure WpAt (w : World) (p : Addr) (f : Wp) : Prop where
  n : w.cell? p = some (.string f.n)
  r : w.cell? ⟨p.block, p.off + 1, none⟩ = some (.int .i64 f.r)
  c : w.cell? ⟨p.block, p.off + 2, none⟩ = some (.int .i64 f.c)
theorem WpAt.keepB {w w' : World} {p : Addr} {f : Wp} (h : WpAt w p f) (q : B w w') : WpAt w' p f := ⟨q.keep h.n, q.keep h.r, q.keep h.c⟩
/-- Wells in memory. -/
def IsWps (w : World) (v : Value) (L : List Wp) : Prop :=
  (v = .slice none 0 0 ∧ L = []) ∨
  ∃ (a : Addr) (cap : Nat), v = .slice (some a) L.length cap ∧ L.length ≤ cap ∧ cap ≤ maxLen ∧ ∀ i f, L[i]? = some f → WpAt w (a.add (i * 3)) f
theorem IsWps.keepB {w w' : World} {v : Value} {L : List Wp} (h : IsWps w v L) (q : B w w') : IsWps w' v L := by
  rcases h with h | ⟨a, cap, h1, h2, h3, h4⟩
  · exact .inl h
  · exact .inr ⟨a, cap, h1, h2, h3, fun i f hf => (h4 i f hf).keepB q⟩
theorem IsWps.form {w : World} {v : Value} {L : List Wp} (h : IsWps w v L) : ∃ ao cap, v = .slice ao L.length cap := by
  rcases h with ⟨rfl, rfl⟩ | ⟨a, cap, rfl, _⟩
  · exact ⟨_, _, rfl⟩
  · exact ⟨_, _, rfl⟩
theorem IsWps.at_ {w : World} {v : Value} {L : List Wp} (h : IsWps w v L) {i : Nat} (hi : i < L.length) : ∃ (a : Addr) (cap : Nat), v = .slice (some a) L.length cap ∧ L.length ≤ cap ∧ cap ≤ maxLen ∧ WpAt w (a.add (i * 3)) L[i] := by
  rcases h with ⟨_, rfl⟩ | ⟨a, cap, h1, h2, h3, h4⟩
  · simp at hi
  · exact ⟨a, cap, h1, h2, h3, h4 i _ (List.getElem?_eq_getElem hi)⟩
theorem IsWps.len {w : World} {v : Value} {L : List Wp} (h : IsWps w v L) : L.length ≤ 9223372036854775807 := by
  rcases h with ⟨_, rfl⟩ | ⟨a, cap, _, h2, h3, _⟩
  · simp
  · exact len_max h2 h3
/-- A step in memory. -/
structure SpAt (w : World) (p : Addr) (s : Sp) : Prop where
  k : w.cell? p = some (.int .i64 s.k)
  n : w.cell? ⟨p.block, p.off + 1, none⟩ = some (.string s.n)
  ws : ∃ v, w.cell? ⟨p.block, p.off + 2, none⟩ = some v ∧ IsWps w v s.w
  v : w.cell? ⟨p.block, p.off + 3, none⟩ = some (.int .i64 s.v)
  m : w.cell? ⟨p.block, p.off + 4, none⟩ = some (.int .i64 s.m)
theorem SpAt.keepB {w w' : World} {p : Addr} {s : Sp} (h : SpAt w p s) (q : B w w') : SpAt w' p s :=
  ⟨q.keep h.k, q.keep h.n, let ⟨v, h1, h2⟩ := h.ws; ⟨v, q.keep h1, h2.keepB q⟩, q.keep h.v, q.keep h.m⟩
def IsSps (w : World) (v : Value) (L : List Sp) : Prop :=
  (v = .slice none 0 0 ∧ L = []) ∨
  ∃ (a : Addr) (cap : Nat), v = .slice (some a) L.length cap ∧ L.length ≤ cap ∧ cap ≤ maxLen ∧ ∀ i f, L[i]? = some f → SpAt w (a.add (i * 5)) f
theorem IsSps.keepB {w w' : World} {v : Value} {L : List Sp} (h : IsSps w v L) (q : B w w') : IsSps w' v L := by
  rcases h with h | ⟨a, cap, h1, h2, h3, h4⟩
  · exact .inl h
  · exact .inr ⟨a, cap, h1, h2, h3, fun i f hf => (h4 i f hf).keepB q⟩
theorem IsSps.form {w : World} {v : Value} {L : List Sp} (h : IsSps w v L) : ∃ ao cap, v = .slice ao L.length cap := by
  rcases h with ⟨rfl, rfl⟩ | ⟨a, cap, rfl, _⟩
  · exact ⟨_, _, rfl⟩
  · exact ⟨_, _, rfl⟩
theorem IsSps.at_ {w : World} {v : Value} {L : List Sp} (h : IsSps w v L) {i : Nat} (hi : i < L.length) : ∃ (a : Addr) (cap : Nat), v = .slice (some a) L.length cap ∧ L.length ≤ cap ∧ cap ≤ maxLen ∧ SpAt w (a.add (i * 5)) L[i] := by
  rcases h with ⟨_, rfl⟩ | ⟨a, cap, h1, h2, h3, h4⟩
  · simp at hi
  · exact ⟨a, cap, h1, h2, h3, h4 i _ (List.getElem?_eq_getElem hi)⟩
theorem IsSps.len {w : World} {v : Value} {L : List Sp} (h : IsSps w v L) : L.length ≤ 9223372036854775807 := by
  rcases h with ⟨_, rfl⟩ | ⟨a, cap, _, h2, h3, _⟩
  · simp
  · exact len_max h2 h3
end Go.Proofs.YthlileddhgglnaaDoor

namespace Go.Proofs.YthlileddhgglnaaDoor
open Go.RowKit
theorem digit_vl {d : Nat} (h : d < 10) : (UInt8.ofNat (48 + d)).toNat = 48 + d := by
  rw [UInt8.toNat_ofNat']; omega
theorem dec_dgs : ∀ (n u : Nat), u ≤ n → ∀ b ∈ Lib.decDigits u, 48 ≤ b.toNat ∧ b.toNat ≤ 57
  | n, u, h => by
    rw [Lib.decDigits]
    by_cases c : u < 10
    · rw [dif_pos c]
      intro b hb
      rw [List.mem_singleton] at hb
      rw [hb, digit_vl c]
      omega
    · rw [dif_neg c]
      match n with
      | 0 => omega
      | n + 1 =>
        have ih := dec_dgs n (u / 10) (by omega)
        intro b hb
        rw [List.mem_append, List.mem_singleton] at hb
        rcases hb with hb | hb
        · exact ih b hb
        · rw [hb, digit_vl (show u % 10 < 10 by omega)]
          omega
theorem dec_lng (n : Nat) : 1 ≤ (Lib.decDigits n).length := by
  rw [Lib.decDigits]
  split <;> simp
end Go.Proofs.YthlileddhgglnaaDoor

namespace Go.Proofs.YthlileddhgglnaaDoor
open Go.RowKit
def decS (n : Nat) : ByteArray := ⟨(Lib.decDigits n).toArray⟩
theorem decS_small : ∀ n : Nat, n < 10 → ({ data := #[48, 49, 50, 51, 52, 53, 54, 55, 56, 57] } : ByteArray).extract n (n + 1) = decS n := by
  intro n hn
  have e : decS n = ⟨#[UInt8.ofNat (48 + n)]⟩ := by unfold decS; rw [Lib.decDigits, dif_pos hn]
  rw [e]
  have : n = 0 ∨ n = 1 ∨ n = 2 ∨ n = 3 ∨ n = 4 ∨ n = 5 ∨ n = 6 ∨ n = 7 ∨ n = 8 ∨ n = 9 := by omega
  rcases this with rfl | rfl | rfl | rfl | rfl | rfl | rfl | rfl | rfl | rfl <;> rfl
theorem decS_app {n q r : Nat} (h : 10 ≤ n) (hq : q = n / 10) (hr : r = n % 10) : decS q ++ decS r = decS n := by
  apply ByteArray.ext
  rw [ByteArray.data_append]
  have e1 : Lib.decDigits n = Lib.decDigits (n / 10) ++ [UInt8.ofNat (48 + n % 10)] := by rw [Lib.decDigits.eq_def n, dif_neg (by omega)]
  have e2 : Lib.decDigits (n % 10) = [UInt8.ofNat (48 + n % 10)] := by rw [Lib.decDigits.eq_def (n % 10), dif_pos (by omega)]
  unfold decS
  subst hq hr
  rw [e1, e2]
  simp
theorem decS_size {n : Nat} (h : n ≤ 10000000000000) : (decS n).size ≤ 20 := by
  have e : (decS n).size = (Lib.decDigits n).length := by simp [decS, ByteArray.size]
  rw [e, Lib.decDigits_length]
  exact Lib.nDigits_le20 n (by omega)
theorem slice_digit {n : Nat} (c : n < 10) (w : World) : (Instr.slice 9 (.string { data := #[48, 49, 50, 51, 52, 53, 54, 55, 56, 57] }) (some (.int .i64 (n : Int))) (some (.int .i64 ((n : Int) + 1))) none).run Tryd.prog w = .ok (.string (decS n)) w := by
  have hs : ({ data := #[48, 49, 50, 51, 52, 53, 54, 55, 56, 57] } : ByteArray).size = 10 := rfl
  rw [run_slice_string w 9 _ .i64 .i64 (n : Int) ((n : Int) + 1) Tryd.underlying9 (by omega) (by omega) (by rw [hs]; omega), ← decS_small n c]
  rw [show ((n : Int) + 1).toNat = n + 1 by omega, Int.toNat_natCast]
theorem r8dec_any : ∀ (f n : Nat), n ≤ f → n ≤ 10000000000000 → ∀ w : World, Calls Tryd.prog 23 #[.int .i64 (n : Int)] w fun e w' => e = .returned (.string (decS n)) ∧ w = w' := by
  intro f
  induction f with
  | zero =>
    intro n hf hn w
    obtain rfl : n = 0 := by omega
    have e := decS_small 0 (by decide)
    go_enter Tryd.func23, Tryd.ntmps23
    go_wp2
    go_ret
    exact ⟨by rw [← e]; rfl, rfl⟩
  | succ f ih =>
    intro n hf hn w
    by_cases c : n < 10
    · have e := slice_digit c
      have cB : decide ((n : Int) < 10) = true := decide_eq_true (by omega)
      have wk : IntKind.i64.wrap ((n : Int) + 1) = (n : Int) + 1 := by rw [IntKind.wrap_i64]; omega
      clear ih hf hn c
      go_enter Tryd.func23, Tryd.ntmps23
      go_wp2
      go_ret
      exact ⟨rfl, rfl⟩
    · obtain ⟨q, hq⟩ : ∃ q, q = n / 10 := ⟨_, rfl⟩
      obtain ⟨r, hr⟩ : ∃ r, r = n % 10 := ⟨_, rfl⟩
      have e := Lib.hid (decS_app (by omega) hq hr)
      have cB : decide ((n : Int) < 10) = false := decide_eq_false (by omega)
      have tq : (n : Int).tdiv 10 = (q : Int) := by rw [Int.tdiv_eq_ediv_of_nonneg (by omega)]; omega
      have tr : (n : Int).tmod 10 = (r : Int) := by rw [Int.tmod_eq_emod_of_nonneg (by omega)]; omega
      have wq : IntKind.i64.wrap (q : Int) = (q : Int) := by rw [IntKind.wrap_i64]; omega
      have wr : IntKind.i64.wrap (r : Int) = (r : Int) := by rw [IntKind.wrap_i64]; omega
      have hsz : ¬ 9223372036854775807 < (decS q).size + (decS r).size := by
        have := decS_size (n := q) (by omega)
        have := decS_size (n := r) (by omega)
        omega
      have c1 := ih q (by omega) (by omega)
      have c2 := ih r (by omega) (by omega)
      clear ih hf hn hq hr
      go_enter Tryd.func23, Tryd.ntmps23
      go_wp2_with fail
      refine (c1 _).mono ?_
      rintro e1 w1 ⟨rfl, rfl⟩
      go_wp2_with fail
      refine (c2 _).mono ?_
      rintro e1 w1 ⟨rfl, rfl⟩
      go_wp2_with fail
      go_ret
      exact ⟨by rw [← e.out]; rfl, rfl⟩
end Go.Proofs.YthlileddhgglnaaDoor

namespace Go.Proofs.YthlileddhgglnaaDoor
open Go.RowKit
theorem strB_app (a b : List UInt8) : strB a ++ strB b = strB (a ++ b) := by
  apply ByteArray.ext
  rw [ByteArray.data_append]
  simp [strB]
theorem decS_strB (n : Nat) : decS n = strB (decI n) := by unfold decS decI strB; rw [Int.toNat_natCast]
theorem take_flat {α β : Type} {l : List α} {f : α → List β} {i : Nat} {x : α} (h : l[i]? = some x) : (l.take (i + 1)).flatMap f = (l.take i).flatMap f ++ f x := by
  rw [List.take_add_one, h]
  simp
end Go.Proofs.YthlileddhgglnaaDoor

namespace Go.Proofs.YthlileddhgglnaaDoor
open Go.RowKit
theorem r8lower_any (n : Nat) (w : World) : Calls Tryd.prog 45 #[.int .u8 (n : Int)] w fun e w' => e = .returned (.bool (lowN n)) ∧ w = w' := by
  unfold lowN
  by_cases c : 97 ≤ n
  · have cB : decide ((97 : Int) ≤ (n : Int)) = true := decide_eq_true (by omega)
    have e2 : decide (n ≤ 122) = decide ((n : Int) ≤ 122) := decide_eq_decide.2 (by omega)
    rw [decide_eq_true c, e2, Bool.true_and]
    go_enter Tryd.func45, Tryd.ntmps45
    go_wp2
    go_ret
    exact ⟨rfl, rfl⟩
  · have cB : decide ((97 : Int) ≤ (n : Int)) = false := decide_eq_false (by omega)
    rw [decide_eq_false c, Bool.false_and]
    go_enter Tryd.func45, Tryd.ntmps45
    go_wp2
    go_ret
    exact ⟨rfl, rfl⟩
theorem r8digit_any (n : Nat) (w : World) : Calls Tryd.prog 46 #[.int .u8 (n : Int)] w fun e w' => e = .returned (.bool (digN n)) ∧ w = w' := by
  unfold digN
  by_cases c : 48 ≤ n
  · have cB : decide ((48 : Int) ≤ (n : Int)) = true := decide_eq_true (by omega)
    have e2 : decide (n ≤ 57) = decide ((n : Int) ≤ 57) := decide_eq_decide.2 (by omega)
    rw [decide_eq_true c, e2, Bool.true_and]
    go_enter Tryd.func46, Tryd.ntmps46
    go_wp2
    go_ret
    exact ⟨rfl, rfl⟩
  · have cB : decide ((48 : Int) ≤ (n : Int)) = false := decide_eq_false (by omega)
    rw [decide_eq_false c, Bool.false_and]
    go_enter Tryd.func46, Tryd.ntmps46
    go_wp2
    go_ret
    exact ⟨rfl, rfl⟩
theorem r8name_any (s : ByteArray) (w : World) : Calls Tryd.prog 56 #[.string s] w fun e w' => e = .returned (.bool (nameS s)) ∧ w = w' := by
  by_cases h1 : s.size < 1
  · have h1B : decide ((s.size : Int) < 1) = true := decide_eq_true (by omega)
    rw [nameS_size (.inl h1)]
    clear h1
    go_enter Tryd.func56, Tryd.ntmps56
    go_wp2
    go_ret
    exact ⟨rfl, rfl⟩
  have h1B : decide ((s.size : Int) < 1) = false := decide_eq_false (by omega)
  by_cases h2 : 16 < s.size
  · have h2B : decide ((16 : Int) < (s.size : Int)) = true := decide_eq_true (by omega)
    rw [nameS_size (.inr h2)]
    clear h1 h2
    go_enter Tryd.func56, Tryd.ntmps56
    go_wp2
    go_ret
    exact ⟨rfl, rfl⟩
  have h2B : decide ((16 : Int) < (s.size : Int)) = false := decide_eq_false (by omega)
  have hz : (0 : Int) < (s.size : Int) := by omega
  have hg0 : ∀ h : 0 < s.size, (s[0]'h).toNat = byteAt s 0 := fun h => byteAt_get s 0 h
  have c0 := fun w => r8lower_any (byteAt s 0) w
  cases h3 : lowN (byteAt s 0)
  · rw [nameS_first h3]
    rw [h3] at c0
    generalize byteAt s 0 = b0 at *
    clear h3
    go_enter Tryd.func56, Tryd.ntmps56
    go_wp2_with fail
    refine (c0 _).mono ?_
    rintro e w1 ⟨rfl, rfl⟩
    go_wp2
    go_ret
    exact ⟨rfl, rfl⟩
  rw [h3] at c0
  have hgood := Lib.hid (fun h => nameS_good (s := s) (by omega) (by omega) h3 h)
  have hbad := @nameS_bad s
  generalize byteAt s 0 = b0 at *
  generalize nameS s = R at *
  clear h3 h1
  go_enter Tryd.func56, Tryd.ntmps56
  go_wp2_with fail
  refine (c0 _).mono ?_
  rintro e w1 ⟨rfl, rfl⟩
  clear c0 hg0
  go_wp2
  go_loopw [3] (fun i wr => ∃ k : Nat, k ≤ s.size ∧ i = .int .i64 k ∧ (∀ j, j < k → (lowN (byteAt s j) || digN (byteAt s j)) = true) ∧ w = wr) (fun i _ => s.size + 1 - (intOf i).toNat)
  case atStart => exact ⟨0, Nat.zero_le _, rfl, fun j hj => by omega, rfl⟩
  case round =>
    obtain ⟨k, hk, rfl, hall, rfl⟩ := hrel
    by_cases hl : k < s.size
    · have hlB : decide ((k : Int) < (s.size : Int)) = true := decide_eq_true (by omega)
      have hlI : (k : Int) < (s.size : Int) := by omega
      have hkB : (0 : Int) ≤ (k : Int) := by omega
      have wk1 : IntKind.i64.wrap ((k : Int) + 1) = (k : Int) + 1 := by rw [IntKind.wrap_i64]; omega
      have hg : ∀ h : k < s.size, (s[k]'h).toNat = byteAt s k := fun h => byteAt_get s k h
      have c1 := fun w => r8lower_any (byteAt s k) w
      have c2 := fun w => r8digit_any (byteAt s k) w
      have hb := hbad hl
      have hnext : (lowN (byteAt s k) || digN (byteAt s k)) = true → ∀ j, j < k + 1 → (lowN (byteAt s j) || digN (byteAt s j)) = true := fun h j hj => by
        by_cases c : j = k
        · subst c; exact h
        · exact hall j (by omega)
      clear hall
      generalize byteAt s k = b at *
      cases h4 : lowN b
      · cases h5 : digN b
        · rw [h4, h5] at hb
          obtain rfl := hb rfl
          rw [h4] at c1
          rw [h5] at c2
          clear hnext h4 h5
          go_wp2_with fail
          refine (c1 _).mono ?_
          rintro e w1 ⟨rfl, rfl⟩
          go_wp2_with fail
          refine (c2 _).mono ?_
          rintro e w1 ⟨rfl, rfl⟩
          go_wp2
          go_ret
          exact ⟨rfl, rfl⟩
        · have HA := Lib.hid (hnext (by rw [h4, h5]; rfl))
          rw [h4] at c1
          rw [h5] at c2
          clear hnext h4 h5 hb
          go_wp2_with fail
          refine (c1 _).mono ?_
          rintro e w1 ⟨rfl, rfl⟩
          go_wp2_with fail
          refine (c2 _).mono ?_
          rintro e w1 ⟨rfl, rfl⟩
          go_wp2
          go_roundw
          case rel => exact ⟨k + 1, by omega, by go_num, HA.out, trivial⟩
          case measure => simp [intOf]; omega
      · have HA := Lib.hid (hnext (by rw [h4]; rfl))
        rw [h4] at c1
        clear hnext h4 hb c2
        go_wp2_with fail
        refine (c1 _).mono ?_
        rintro e w1 ⟨rfl, rfl⟩
        go_wp2
        go_roundw
        case rel => exact ⟨k + 1, by omega, by go_num, HA.out, trivial⟩
        case measure => simp [intOf]; omega
    · have hlB : decide ((k : Int) < (s.size : Int)) = false := decide_eq_false (by omega)
      have HR := Lib.hid (hgood.out (fun i hi => hall i (by omega)))
      clear hall hgood hbad
      go_wp2
      go_ret
      exact ⟨by rw [HR.out]; rfl, rfl⟩
end Go.Proofs.YthlileddhgglnaaDoor
