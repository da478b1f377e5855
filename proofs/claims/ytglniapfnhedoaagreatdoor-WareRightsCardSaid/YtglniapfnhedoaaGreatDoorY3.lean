/-
 Contracts and what they rest on.
-/
import Derived.Laws.OwnMore
import Derived.Test.YtglniapfnhedoaaGreatDoorChecked
import Derived.Lib.Hide
import Derived.KernelRfl
import Derived.OwnWalk
import Derived.Deep.AppendLies
import Derived.Deep.QuietTactic
import Derived.BigQuiet
import Derived.Laws.BytesArg
import Derived.Test.YtglniapfnhedoaaGreatDoorY2
namespace Go.Proofs.YtglniapfnhedoaaGreatDoor
open Go.RowKit
structure Rec where
 n : ByteArray
 x : Int
 y : Int
 z : Int
 l : List Sec
def Rec.cells (r : Rec) (v : Value) : List Value := [.string r.n, .int .i64 r.x, .int .i64 r.y, .int .i64 r.z, v]
structure RecAt (w : World) (p : Addr) (r : Rec) : Prop where
 n : w.cell? p = some (.string r.n)
 x : w.cell? ⟨p.block, p.off + 1, none⟩ = some (.int .i64 r.x)
 y : w.cell? ⟨p.block, p.off + 2, none⟩ = some (.int .i64 r.y)
 z : w.cell? ⟨p.block, p.off + 3, none⟩ = some (.int .i64 r.z)
 l : ∃ v, w.cell? ⟨p.block, p.off + 4, none⟩ = some v ∧ IsSecs w v r.l
theorem RecAt.keepB {w w' : World} {p : Addr} {r : Rec} (h : RecAt w p r) (q : B w w') : RecAt w' p r :=
 ⟨q.keep h.n, q.keep h.x, q.keep h.y, q.keep h.z, let ⟨v, h1, h2⟩ := h.l; ⟨v, q.keep h1, h2.keepB q⟩⟩
def IsRecs (w : World) (v : Value) (L : List Rec) : Prop :=
 (v = .slice none 0 0 ∧ L = []) ∨
 ∃ (a : Addr) (cap : Nat), v = .slice (some a) L.length cap ∧ L.length ≤ cap ∧ cap ≤ maxLen ∧ ∀ i r, L[i]? = some r → RecAt w (a.add (i * 5)) r
theorem IsRecs.keepB {w w' : World} {v : Value} {L : List Rec} (h : IsRecs w v L) (q : B w w') : IsRecs w' v L := by
 rcases h with h | ⟨a, cap, h1, h2, h3, h4⟩
 ·exact .inl h
 ·exact .inr ⟨a, cap, h1, h2, h3, fun i r hr => (h4 i r hr).keepB q⟩
theorem IsRecs.form {w : World} {v : Value} {L : List Rec} (h : IsRecs w v L) : ∃ ao cap, v = .slice ao L.length cap := by
 rcases h with ⟨rfl, rfl⟩ | ⟨a, cap, rfl, _⟩
 ·exact ⟨_, _, rfl⟩
 ·exact ⟨_, _, rfl⟩
def flatR : List Rec → List Value → List Value
 | r :: L, v :: vs => r.cells v ++ flatR L vs
 | _, _ => []
theorem flatR_get : ∀ (L : List Rec) (vs : List Value) (i j : Nat) (r : Rec) (v : Value), L[i]? = some r → vs[i]? = some v → j < 5 → (flatR L vs)[i * 5 + j]? = (r.cells v)[j]?
 | [], _, _, _, _, _, h, _, _ => by simp at h
 | _ :: _, [], _, _, _, _, _, h, _ => by simp at h
 | r :: L, v :: vs, 0, j, r', v', h, h', hj => by
  simp at h h'
  subst h h'
  rw [Nat.zero_mul, Nat.zero_add]
  show (r.cells v ++ flatR L vs)[j]? = _
  rw [List.getElem?_append_left (by simpa [Rec.cells] using hj)]
 | r :: L, v :: vs, i + 1, j, r', v', h, h', hj => by
  show (r.cells v ++ flatR L vs)[(i + 1) * 5 + j]? = _
  rw [List.getElem?_append_right (by simp [Rec.cells]; omega), show (i + 1) * 5 + j - (r.cells v).length = i * 5 + j by simp [Rec.cells]; omega]
  exact flatR_get L vs i j r' v' (by simpa using h) (by simpa using h') hj
theorem flatR_len : ∀ (L : List Rec) (vs : List Value), L.length = vs.length → (flatR L vs).length = L.length * 5
 | [], [], _ => rfl
 | [], _ :: _, h => by simp at h
 | _ :: _, [], h => by simp at h
 | r :: L, v :: vs, h => by
  show (r.cells v ++ flatR L vs).length = _
  rw [List.length_append, flatR_len L vs (by simpa using h), List.length_cons]
  simp [Rec.cells]
  omega
theorem recs_cells {w : World} {g : Nat} {cap : Nat} {L : List Rec} {vs : List Value} (hv : L.length = vs.length) (h1 : L.length ≤ cap) (h2 : cap ≤ maxLen)
  (hc : ∀ j u, (flatR L vs)[j]? = some u → w.cell? ⟨g, j, none⟩ = some u) (hs : ∀ (i : Nat) (r : Rec) (v : Value), L[i]? = some r → vs[i]? = some v → IsSecs w v r.l) : IsRecs w (.slice (some ⟨g, 0, none⟩) L.length cap) L := by
 refine .inr ⟨⟨g, 0, none⟩, cap, rfl, h1, h2, fun i r hr => ?_⟩
 have hi : i < L.length := (List.getElem?_eq_some_iff.1 hr).1
 obtain ⟨v, hvi⟩ : ∃ v, vs[i]? = some v := ⟨_, List.getElem?_eq_getElem (by omega)⟩
 have k := fun j hj u (hu : (r.cells v)[j]? = some u) => hc (i * 5 + j) u ((flatR_get L vs i j r v hr hvi hj).trans hu)
 rw [add0]
 exact ⟨k 0 (by omega) _ rfl, k 1 (by omega) _ rfl, k 2 (by omega) _ rfl, k 3 (by omega) _ rfl, v, k 4 (by omega) _ rfl, hs i r v hr hvi⟩
theorem recs_own {w : World} {base : Nat} {e : TypeId} {g c k : Nat} {L : List Rec} {vs : List Value} (h : w.ownsRow base e 5 (.slice (some ⟨g, 0, none⟩) k c) k (flatR L vs)) (hk : 0 < k) (hl : L.length = k) (hv : L.length = vs.length)
  (hs : ∀ (i : Nat) (r : Rec) (v : Value), L[i]? = some r → vs[i]? = some v → IsSecs w v r.l) : IsRecs w (.slice (some ⟨g, 0, none⟩) k c) L := by
 have hh := h
 rcases hh.2 with ⟨_, h0⟩ | ⟨g', cap, cur, hg, _, _, h1, h2, _⟩
 ·omega
 ·simp only [Value.slice.injEq, Option.some.injEq, Addr.mk.injEq] at hg
  obtain ⟨⟨rfl, _⟩, _, rfl⟩ := hg
  subst hl
  exact recs_cells hv h1 h2 (fun j u hj => by have := h.cells rfl j u hj; rwa [add0] at this) hs
theorem IsRecs.at_ {w : World} {v : Value} {L : List Rec} (h : IsRecs w v L) {i : Nat} (hi : i < L.length) : ∃ (a : Addr) (cap : Nat), v = .slice (some a) L.length cap ∧ L.length ≤ cap ∧ cap ≤ maxLen ∧ RecAt w (a.add (i * 5)) L[i] := by
 rcases h with ⟨_, rfl⟩ | ⟨a, cap, h1, h2, h3, h4⟩
 ·simp at hi
 ·exact ⟨a, cap, h1, h2, h3, h4 i _ (List.getElem?_eq_getElem hi)⟩
theorem ownsRow_keepB {w w' : World} {base : Nat} {e : TypeId} {size n : Nat} {v : Value} {xs : List Value} (h : w.ownsRow base e size v n xs) (q : B w w') : w'.ownsRow base e size v n xs :=
 h.kept (row := none) ⟨q.below.os, q.below.tape, q.below.output, q.below.size, fun k hk _ => q.below.block k hk⟩ (by cases v.ownBlock <;> simp)
def SecsV (k : Nat) (l : List Sec) : Value → World → Prop := fun v w => ∃ o n p, v = .slice o n p ∧ IsSecs w (.slice o n p) l ∧ ∀ b, (Value.slice o n p).ownBlock = some b → k ≤ b ∧ b < w.heap.size
theorem slot_secs (k : Nat) (l : List Sec) : Slot.stays (SecsV k l) := fun _ _ _ ⟨o, n, p, h1, h2, h3⟩ q => ⟨o, n, p, h1, h2.keepB q, fun b hb => ⟨(h3 b hb).1, Nat.lt_of_lt_of_le (h3 b hb).2 q.below.size⟩⟩
def RecV (k : Nat) (r : Rec) : Value → World → Prop := fun v w => ∃ o n p, v = .agg #[.string r.n, .int .i64 r.x, .int .i64 r.y, .int .i64 r.z, .slice o n p] ∧ IsSecs w (.slice o n p) r.l ∧ ∀ b, (Value.slice o n p).ownBlock = some b → k ≤ b ∧ b < w.heap.size
theorem slot_rec (k : Nat) (r : Rec) : Slot.stays (RecV k r) := fun _ _ _ ⟨o, n, p, h1, h2, h3⟩ q => ⟨o, n, p, h1, h2.keepB q, fun b hb => ⟨(h3 b hb).1, Nat.lt_of_lt_of_le (h3 b hb).2 q.below.size⟩⟩
def RecRow (k : Nat) (r : Rec) : Value → World → Prop := fun v w => ∃ b o n p, v = .slice (some ⟨b, 0, none⟩) 1 1 ∧ (∀ j u, (r.cells (.slice o n p))[j]? = some u → w.cell? ⟨b, j, none⟩ = some u) ∧ IsSecs w (.slice o n p) r.l ∧ ∀ b, (Value.slice o n p).ownBlock = some b → k ≤ b ∧ b < w.heap.size
theorem slot_recrow (k : Nat) (r : Rec) : Slot.stays (RecRow k r) := fun _ _ _ ⟨b, o, n, p, h1, h2, h3, h4⟩ q => ⟨b, o, n, p, h1, fun j u hj => q.keep (h2 j u hj), h3.keepB q, fun b hb => ⟨(h4 b hb).1, Nat.lt_of_lt_of_le (h4 b hb).2 q.below.size⟩⟩
theorem secs_lt {w : World} {v : Value} {l : List Sec} (h : IsSecs w v l) (hl : 1 ≤ l.length) {b : Nat} (hb : v.ownBlock = some b) : b < w.heap.size := by
 rcases h with ⟨rfl, rfl⟩ | ⟨a, cap, rfl, h2, h3, h4⟩
 ·simp at hl
 ·have e : a.block = b := Option.some.inj hb
  obtain ⟨s, hs⟩ : ∃ s, l[0]? = some s := ⟨_, List.getElem?_eq_getElem (by omega)⟩
  have := World.block_lt_of_cell? w _ (h4 0 s hs).2.r
  have e2 : (a.add (0 * 6)).block = a.block := by unfold Addr.add; split <;> rfl
  omega
theorem isSecs_keepOwn {S : Nat → Prop} {w w' : World} {v : Value} {l : List Sec} (h : IsSecs w v l) (hS : ∀ b, v.ownBlock = some b → ¬ S b) (q : G S w w') : IsSecs w' v l := by
 rcases h with ⟨rfl, rfl⟩ | ⟨a, cap, rfl, h2, h3, h4⟩
 ·exact .inl ⟨rfl, rfl⟩
 ·refine .inr ⟨a, cap, rfl, h2, h3, fun i s hs => ⟨(h4 i s hs).1, ?_⟩⟩
  obtain ⟨f0, f1, f2, f3, f4, f5⟩ := (h4 i s hs).2
  have hb : ¬ S (a.add (i * 6)).block := by
   have e : (a.add (i * 6)).block = a.block := by unfold Addr.add; split <;> rfl
   rw [e]
   exact hS _ rfl
  exact ⟨q.keep hb f0, q.keep hb f1, q.keep hb f2, q.keep hb f3, q.keep hb f4, q.keep hb f5⟩
theorem B.obj {w w' : World} (h : B w w') {b : Nat} {o : Obj} (ho : w.heap[b]? = some o) : w'.heap[b]? = some o :=
 (h.below.block b (Array.getElem?_eq_some_iff.1 ho).1).trans ho
theorem spot_none {w : World} {p : Addr} {s : ByteArray} (h : w.cell? p = some (.string s)) : p.spot = none := by
 cases hsp : p.spot with
 | none => rfl
 | some x =>
  unfold World.cell? at h
  split at h
  ·simp [hsp] at h
  ·cases h
theorem isRecs_keepG {S : Nat → Prop} {w w' : World} {v : Value} {L : List Rec} (h : IsRecs w v L) (hS : ∀ i, S i → ∀ k, (∀ r, w.cell? ⟨i, k, none⟩ ≠ some (.bool r)) ∧ ∀ s, w.cell? ⟨i, k, none⟩ ≠ some (.string s)) (q : G S w w') : IsRecs w' v L := by
 rcases h with ⟨rfl, rfl⟩ | ⟨a, cap, rfl, h2, h3, h4⟩
 ·exact .inl ⟨rfl, rfl⟩
 ·refine .inr ⟨a, cap, rfl, h2, h3, fun i r hr => ?_⟩
  obtain ⟨f0, f1, f2, f3, v, f4, f5⟩ := h4 i r hr
  have hsp := spot_none f0
  have hb : ¬ S (a.add (i * 5)).block := fun hs' => by
   refine (hS _ hs' (a.add (i * 5)).off).2 r.n ?_
   rw [← f0]
   congr 1
   rw [← hsp]
  exact ⟨q.keep hb f0, q.keep hb f1, q.keep hb f2, q.keep hb f3, v, q.keep hb f4, isSecs_keepG f5 (fun i hi k r => (hS i hi k).1 r) q⟩
theorem g_three (w : World) (b : Nat) (x y z : Value) : G (fun i => i = b) w (((w.setCell ⟨b, 0, none⟩ x).setCell ⟨b, 1, none⟩ y).setCell ⟨b, 2, none⟩ z) :=
 G.setCell (S := fun i => i = b) (p := ⟨b, 2, none⟩) (G.setCell (S := fun i => i = b) (p := ⟨b, 1, none⟩) (G.setCell (S := fun i => i = b) (p := ⟨b, 0, none⟩) (G.refl _ _) (.inl rfl) _) (.inl rfl) _) (.inl rfl) _
theorem b_three {u w : World} (h : B u w) {b : Nat} (hb : u.heap.size ≤ b) (x y z : Value) : B u (((w.setCell ⟨b, 0, none⟩ x).setCell ⟨b, 1, none⟩ y).setCell ⟨b, 2, none⟩ z) :=
 B.setCell (p := ⟨b, 2, none⟩) (B.setCell (p := ⟨b, 1, none⟩) (B.setCell (p := ⟨b, 0, none⟩) h hb _) hb _) hb _
theorem obj_three {w : World} {b : Nat} {x0 y0 z0 : Value} {t : TypeId} (h : w.heap[b]? = some (.cells #[x0, y0, z0] t (0, 0))) (x y z : Value) :
  (((w.setCell ⟨b, 0, none⟩ x).setCell ⟨b, 1, none⟩ y).setCell ⟨b, 2, none⟩ z).heap[b]? = some (.cells #[x, y, z] t (0, 0)) := by
 have := obj_set (obj_set (obj_set h 0 x) 1 y) 2 z
 simpa using this
end Go.Proofs.YtglniapfnhedoaaGreatDoor
namespace Go.Proofs.YtglniapfnhedoaaGreatDoor
open Go.RowKit
def BAt (w : World) (b o : Nat) (bs : List UInt8) : Prop := ∀ i c, bs[i]? = some c → w.cell? ⟨b, o + i, none⟩ = some (.int .u8 ((c.toNat : Nat) : Int))
theorem BAt.keep {w w' : World} {b o : Nat} {bs : List UInt8} (h : BAt w b o bs) (q : B w w') : BAt w' b o bs := fun i c hc => q.keep (h i c hc)
structure IsB (w : World) (ao : Option Addr) (cap b o : Nat) (bs : List UInt8) : Prop where
 at_ : BAt w b o bs
 ao : 0 < bs.length → ao = some ⟨b, o, none⟩
 le : bs.length ≤ cap
 max : cap ≤ maxLen
theorem IsB.keep {w w' : World} {ao : Option Addr} {cap b o : Nat} {bs : List UInt8} (h : IsB w ao cap b o bs) (q : B w w') : IsB w' ao cap b o bs := ⟨h.at_.keep q, h.ao, h.le, h.max⟩
def nums (bs : List UInt8) : List Int := bs.map fun c => ((c.toNat : Nat) : Int)
theorem nums_len (bs : List UInt8) : (nums bs).length = bs.length := by simp [nums]
theorem nums_get (bs : List UInt8) (i : Nat) (c : UInt8) (h : bs[i]? = some c) : (nums bs).getD i 0 = ((c.toNat : Nat) : Int) := by
 unfold nums
 rw [List.getD_eq_getElem?_getD, List.getElem?_map, h]
 rfl
theorem bytes_nums (bs : List UInt8) : (nums bs).map (fun n => UInt8.ofNat n.toNat) = bs := by
 unfold nums
 rw [List.map_map]
 conv => rhs; rw [← List.map_id bs]
 apply List.map_congr_left
 intro c _
 simp
theorem BAt.nums {w : World} {b o n : Nat} {bs : List UInt8} (h : BAt w b o bs) (hn : bs.length = n) : ∀ i, i < n → w.cell? ⟨b, o + i, none⟩ = some (.int .u8 ((nums bs).getD i 0)) := fun i hi => by
 have hg : bs[i]? = some bs[i] := List.getElem?_eq_getElem (by omega)
 rw [nums_get bs i _ hg]
 exact h i _ hg
theorem BAt.drop {w : World} {b o : Nat} {bs : List UInt8} (h : BAt w b o bs) (k : Nat) : BAt w b (o + k) (bs.drop k) := fun i c hc => by
 rw [List.getElem?_drop] at hc
 rw [Nat.add_assoc]
 exact h _ _ hc
theorem BAt.take {w : World} {b o : Nat} {bs : List UInt8} (h : BAt w b o bs) (k : Nat) : BAt w b o (bs.take k) := fun i c hc => by
 rw [List.getElem?_take] at hc
 split at hc
 ·exact h _ _ hc
 ·cases hc
def strB (l : List UInt8) : ByteArray := ⟨l.toArray⟩
theorem strB_size (l : List UInt8) : (strB l).size = l.length := by simp [strB, ByteArray.size]
theorem strB_nums (l : List UInt8) : strOfNums (nums l) = strB l := by
 unfold strOfNums strB
 rw [bytes_nums]
def flatW (ws : List Wd) : List Value := ws.flatMap fun x => [.int .i64 ((x.1 : Nat) : Int), .string (strB x.2)]
theorem flatW_len (ws : List Wd) : (flatW ws).length = ws.length * 2 := by
 induction ws with
 | nil => rfl
 | cons x l ih =>
  show ([_, _] ++ flatW l).length = _
  rw [List.length_append, ih, List.length_cons]
  simp
  omega
theorem flatW_get : ∀ (ws : List Wd) (i : Nat) (x : Wd), ws[i]? = some x → (flatW ws)[i * 2]? = some (.int .i64 ((x.1 : Nat) : Int)) ∧ (flatW ws)[i * 2 + 1]? = some (.string (strB x.2))
 | [], _, _, h => by simp at h
 | y :: l, 0, x, h => by
  simp at h; subst h; exact ⟨rfl, rfl⟩
 | y :: l, i + 1, x, h => by
  have ih := flatW_get l i x (by simpa using h)
  constructor
  ·show ([_, _] ++ flatW l)[(i + 1) * 2]? = _
   rw [List.getElem?_append_right (by simp; omega), show (i + 1) * 2 - ([_, _] : List Value).length = i * 2 by simp; omega]
   exact ih.1
  ·show ([_, _] ++ flatW l)[(i + 1) * 2 + 1]? = _
   rw [List.getElem?_append_right (by simp; omega), show (i + 1) * 2 + 1 - ([_, _] : List Value).length = i * 2 + 1 by simp; omega]
   exact ih.2
theorem flatW_snoc (ws : List Wd) (x : Wd) : flatW (ws ++ [x]) = flatW ws ++ [.int .i64 ((x.1 : Nat) : Int), .string (strB x.2)] := by simp [flatW]
theorem flatW_one (ws : List Wd) : ∀ u ∈ flatW ws, u.oneCell' = true := by
 intro u hu
 obtain ⟨x, _, hx⟩ := List.mem_flatMap.1 hu
 simp only [List.mem_cons, List.not_mem_nil, or_false] at hx
 rcases hx with h | h <;> rw [h] <;> rfl
def IsWords (w : World) (v : Value) (ws : List Wd) : Prop :=
 (v = .slice none 0 0 ∧ ws = []) ∨
 ∃ g cap, v = .slice (some ⟨g, 0, none⟩) ws.length cap ∧ ws.length ≤ cap ∧ cap ≤ maxLen ∧ ∀ i x, ws[i]? = some x → w.cell? ⟨g, i * 2, none⟩ = some (.int .i64 ((x.1 : Nat) : Int)) ∧ w.cell? ⟨g, i * 2 + 1, none⟩ = some (.string (strB x.2))
theorem IsWords.form {w : World} {v : Value} {ws : List Wd} (h : IsWords w v ws) : ∃ ao cap, v = .slice ao ws.length cap := by
 rcases h with ⟨rfl, rfl⟩ | ⟨g, cap, rfl, _⟩ <;> exact ⟨_, _, rfl⟩
theorem IsWords.full {w : World} {v : Value} {ws : List Wd} (h : IsWords w v ws) (hw : 0 < ws.length) : ∃ g cap, v = .slice (some ⟨g, 0, none⟩) ws.length cap ∧ ws.length ≤ cap ∧ cap ≤ maxLen ∧ g < w.heap.size ∧ ∀ i x, ws[i]? = some x → w.cell? ⟨g, i * 2, none⟩ = some (.int .i64 ((x.1 : Nat) : Int)) ∧ w.cell? ⟨g, i * 2 + 1, none⟩ = some (.string (strB x.2)) := by
 rcases h with ⟨rfl, rfl⟩ | ⟨g, cap, h1, h2, h3, h4⟩
 ·simp at hw
 ·exact ⟨g, cap, h1, h2, h3, World.block_lt_of_cell? w _ (h4 0 _ (List.getElem?_eq_getElem hw)).1, h4⟩
theorem IsWords.block {w w' : World} {v : Value} {ws : List Wd} (h : IsWords w v ws) (hb : ∀ b, v.ownBlock = some b → b < w.heap.size → w'.heap[b]? = w.heap[b]?) : IsWords w' v ws := by
 rcases h with h | ⟨g, cap, rfl, h2, h3, h4⟩
 ·exact .inl h
 ·refine .inr ⟨g, cap, rfl, h2, h3, fun i x hx => ?_⟩
  obtain ⟨k1, k2⟩ := h4 i x hx
  have hlt := World.block_lt_of_cell? w _ k1
  have e := hb g rfl hlt
  exact ⟨(World.cell?_of_block (a := ⟨g, i * 2, none⟩) e).trans k1, (World.cell?_of_block (a := ⟨g, i * 2 + 1, none⟩) e).trans k2⟩
theorem IsWords.keep {w w' : World} {v : Value} {ws : List Wd} (h : IsWords w v ws) (q : B w w') : IsWords w' v ws := h.block fun b _ hlt => q.below.block b hlt
theorem words_own {w : World} {base : Nat} {e : TypeId} {ao : Option Addr} {k c : Nat} {ws : List Wd} (h : w.ownsRow base e 2 (.slice ao k c) k (flatW ws)) (hl : ws.length = k) : IsWords w (.slice ao k c) ws := by
 have hh := h
 rcases hh.2 with ⟨h0, h1⟩ | ⟨g, cap, cur, hv, _, _, h1, h2, _⟩
 ·refine .inl ⟨h0, ?_⟩
  simp only [Value.slice.injEq] at h0
  exact List.length_eq_zero_iff.1 (by omega)
 ·simp only [Value.slice.injEq] at hv
  obtain ⟨rfl, _, rfl⟩ := hv
  subst hl
  refine .inr ⟨g, c, rfl, h1, h2, fun i x hx => ?_⟩
  have hi : i < ws.length := (List.getElem?_eq_some_iff.1 hx).1
  obtain ⟨k1, k2⟩ := flatW_get ws i x hx
  exact ⟨(h.cellAt (i * 2) (by omega)).trans k1, (h.cellAt (i * 2 + 1) (by omega)).trans k2⟩
structure LinesO (w : World) (base : Nat) (e : TypeId) (v : Value) (LL : List (List Wd)) (vs : List Value) : Prop where
 own : w.ownsRow base e 1 v LL.length vs
 row : ∀ (j : Nat) u L, vs[j]? = some u → LL[j]? = some L → IsWords w u L ∧ ∃ b, u.ownBlock = some b ∧ v.ownBlock ≠ some b ∧ b < w.heap.size ∧ base ≤ b
theorem LinesO.nil (w : World) (base : Nat) (e : TypeId) : LinesO w base e (.slice none 0 0) [] [] := ⟨World.ownsRow_nil _ _ _ _, fun j u L h => by simp at h⟩
theorem lines_keep {w w' : World} {base : Nat} {e : TypeId} {v : Value} {LL : List (List Wd)} {vs : List Value} (h : LinesO w base e v LL vs) {row : Option Nat} (q : w.grownBy w' row)
  (hv : ∀ b, row = some b → v.ownBlock ≠ some b) (hs : ∀ b, row = some b → ∀ u ∈ vs, u.ownBlock ≠ some b) : LinesO w' base e v LL vs := by
 refine ⟨h.own.kept (row := row) q ?_, fun j u L hu hL => ?_⟩
 ·cases hb : v.ownBlock with
  | none => exact .inl rfl
  | some b => exact .inr fun e => hv b e.symm hb
 ·obtain ⟨h1, b, h2, h3, h4, h5⟩ := h.row j u L hu hL
  exact ⟨h1.block fun b' hb' hlt => q.block b' hlt (fun e => hs b' e.symm u (List.mem_of_getElem? hu) hb'), b, h2, h3, Nat.lt_of_lt_of_le h4 q.size, h5⟩
theorem B.none {w w' : World} (q : B w w') : w.grownBy w' none := ⟨q.below.os, q.below.tape, q.below.output, q.below.size, fun k hk _ => q.below.block k hk⟩
theorem row_keep {w w' : World} {base : Nat} {e : TypeId} {size n : Nat} {v : Value} {xs : List Value} (h : w.ownsRow base e size v n xs) (q : B w w') : w'.ownsRow base e size v n xs :=
 h.kept (row := none) q.none (by cases v.ownBlock <;> simp)
theorem addz (b j : Nat) : (⟨b, 0, none⟩ : Addr).add j = ⟨b, j, none⟩ := by unfold Addr.add; split <;> simp_all
theorem newest {w : World} {cs : Array Value} {t : TypeId} {H : Nat} (hH : w.heap.size = H) : ∀ j u, cs.toList[j]? = some u → (w.alloc (.cells cs t)).cell? ((⟨H, 0, none⟩ : Addr).add j) = some u := by
 intro j u h
 rw [addz]
 subst hH
 rw [World.cell?_alloc_new]
 simpa using h
theorem info_of {P : Program} {t : TypeId} {z : Value} {s b : Nat} (h : (P.info? t).map (fun i => (i.zero, i.size, i.bytes)) = some (some z, s, b)) : ∃ i, P.info? t = some i ∧ i.zero = some z ∧ i.size = s ∧ i.bytes = b := by
 cases hi : P.info? t with
 | none => rw [hi] at h; cases h
 | some i => rw [hi] at h; simp at h; exact ⟨i, rfl, h.1, h.2.1, h.2.2⟩
theorem LinesO.keep {w w' : World} {base : Nat} {e : TypeId} {v : Value} {LL : List (List Wd)} {vs : List Value} (h : LinesO w base e v LL vs) (q : B w w') : LinesO w' base e v LL vs :=
 lines_keep h q.none (fun b hb => by cases hb) (fun b hb => by cases hb)
theorem LinesO.len {w : World} {base : Nat} {e : TypeId} {v : Value} {LL : List (List Wd)} {vs : List Value} (h : LinesO w base e v LL vs) : vs.length = LL.length := by
 have := h.own.1
 omega
theorem lines_more {w1 w2 : World} {base : Nat} {e : TypeId} {v : Value} {LL : List (List Wd)} {vs : List Value} {g cap : Nat} {u : Value} {L : List Wd} (h : LinesO w1 base e v LL vs)
  (own : w2.ownsRow base e 1 (.slice (some ⟨g, 0, none⟩) (LL.length + 1) cap) (LL.length + 1) (vs ++ [u])) (q : w1.grownBy w2 v.ownBlock) (hat : v.ownBlock = some g ∨ g = w1.heap.size)
  (hu : IsWords w1 u L) {b : Nat} (hb : u.ownBlock = some b) (hvb : v.ownBlock ≠ some b) (hlt : b < w1.heap.size) (hbase : base ≤ b) :
  LinesO w2 base e (.slice (some ⟨g, 0, none⟩) (LL ++ [L]).length cap) (LL ++ [L]) (vs ++ [u]) := by
 have hlen := h.len
 have key : ∀ (u : Value) (L : List Wd), IsWords w1 u L → (∃ b, u.ownBlock = some b ∧ v.ownBlock ≠ some b ∧ b < w1.heap.size ∧ base ≤ b) → IsWords w2 u L ∧ ∃ b, u.ownBlock = some b ∧ (Value.slice (some ⟨g, 0, none⟩) (LL ++ [L]).length cap).ownBlock ≠ some b ∧ b < w2.heap.size ∧ base ≤ b := by
  intro u L hu ⟨b, hb, hvb, hlt, hba⟩
  refine ⟨hu.block fun b' hb' hlt' => q.block b' hlt' (fun e => ?_), b, hb, fun e => ?_, Nat.lt_of_lt_of_le hlt q.size, hba⟩
  ·rw [hb] at hb'
   cases hb'
   exact hvb e.symm
  ·have hg : g = b := Option.some.inj e
   rcases hat with hat | hat
   ·exact hvb (hat.trans (congrArg some hg))
   ·omega
 have elen : (LL ++ [L]).length = LL.length + 1 := by simp
 refine ⟨elen ▸ own, fun j x M hx hM => ?_⟩
 rcases Nat.lt_or_ge j LL.length with hj | hj
 ·rw [List.getElem?_append_left (by omega)] at hx hM
  obtain ⟨h1, h2⟩ := h.row j x M hx hM
  have := key x M h1 h2
  exact this
 ·have hj' : j = LL.length := by
   have := (List.getElem?_eq_some_iff.1 hM).1
   simp at this
   omega
  subst hj'
  rw [List.getElem?_append_right (by omega)] at hx hM
  simp only [Nat.sub_self, List.getElem?_cons_zero, Option.some.injEq] at hM
  rw [show LL.length - vs.length = 0 by omega] at hx
  simp only [List.getElem?_cons_zero, Option.some.injEq] at hx
  subst hx hM
  exact key _ _ hu ⟨b, hb, hvb, hlt, hbase⟩
def IsLines (w : World) (v : Value) (LL : List (List Wd)) : Prop :=
 (v = .slice none 0 0 ∧ LL = []) ∨
 ∃ g cap, v = .slice (some ⟨g, 0, none⟩) LL.length cap ∧ LL.length ≤ cap ∧ cap ≤ maxLen ∧ ∀ i L, LL[i]? = some L → ∃ u, w.cell? ⟨g, i, none⟩ = some u ∧ IsWords w u L
theorem IsLines.keep {w w' : World} {v : Value} {LL : List (List Wd)} (h : IsLines w v LL) (q : B w w') : IsLines w' v LL := by
 rcases h with h | ⟨g, cap, h1, h2, h3, h4⟩
 ·exact .inl h
 ·exact .inr ⟨g, cap, h1, h2, h3, fun i L hL => by obtain ⟨u, k1, k2⟩ := h4 i L hL; exact ⟨u, q.keep k1, k2.keep q⟩⟩
theorem IsLines.form {w : World} {v : Value} {LL : List (List Wd)} (h : IsLines w v LL) : ∃ ao cap, v = .slice ao LL.length cap := by
 rcases h with ⟨rfl, rfl⟩ | ⟨g, cap, rfl, _⟩ <;> exact ⟨_, _, rfl⟩
theorem LinesO.is {w : World} {base : Nat} {e : TypeId} {v : Value} {LL : List (List Wd)} {vs : List Value} (h : LinesO w base e v LL vs) : IsLines w v LL := by
 have hown := h.own
 rcases hown.2 with ⟨h0, h1⟩ | ⟨g, cap, cur, rfl, _, _, h1, h2, _⟩
 ·exact .inl ⟨h0, List.length_eq_zero_iff.1 (by omega)⟩
 ·refine .inr ⟨g, cap, rfl, h1, h2, fun i L hL => ?_⟩
  have hi : i < LL.length := (List.getElem?_eq_some_iff.1 hL).1
  have hlen := h.len
  have hu : vs[i]? = some vs[i] := List.getElem?_eq_getElem (by omega)
  exact ⟨_, (hown.cellAt i (by omega)).trans hu, (h.row i _ L hu hL).1⟩
end Go.Proofs.YtglniapfnhedoaaGreatDoor
namespace Go.Proofs.YtglniapfnhedoaaGreatDoor
open Go.RowKit
abbrev Wr := Rec
structure Fl where
 n : ByteArray
 r : Int
 c : Int
 v : Int
structure Dk where
 ws : List Wr
 ts : List Wr
 fs : List Fl
def dk0 : Dk := ⟨[], [], []⟩
def namedW (ws : List Wr) (n : ByteArray) : Bool := ws.any fun w => w.n.toList == n.toList
def filledW (fs : List Fl) (n : ByteArray) (r c : Int) : Bool := fs.any fun f => (f.n.toList == n.toList) && decide (f.r = r) && decide (f.c = c)
def indexW : List Wr → Int → ByteArray → Int → Int → Option Int
 | [], _, _, _, _ => none
 | w :: ws, k, n, r, c => if w.n.toList == n.toList then (if 0 ≤ r ∧ r < w.x ∧ 0 ≤ c ∧ c < w.y then some (k + (r * w.y + c)) else none) else indexW ws (k + w.x * w.y) n r c
def hasW (ws : List Wr) (n : ByteArray) (r c : Int) : Bool := (indexW ws 0 n r c).isSome
def wellL (l : List UInt8) : Option (List UInt8 × Nat × Nat) :=
 let n := l.takeWhile fun c => decide (c.toNat ≠ 46)
 match l.drop (n.length + 1) with
 | [] => none
 | r :: ds => if nameS (strB n) = true ∧ 65 ≤ r.toNat ∧ r.toNat ≤ 72 ∧ numOk (strB ds) = true ∧ 1 ≤ numV (strB ds) ∧ numV (strB ds) ≤ 12 then some (n, r.toNat - 65, numV (strB ds) - 1) else none
def kRound : List UInt8 := [114, 111, 117, 110, 100]
def kBox : List UInt8 := [98, 111, 120]
def kWare : List UInt8 := [119, 97, 114, 101]
def kTip : List UInt8 := [116, 105, 112]
def kFill : List UInt8 := [102, 105, 108, 108]
def numsW : List Wd → Except Nat (List Nat)
 | [] => .ok []
 | x :: l => if numOk (strB x.2) then (match numsW l with | .ok ns => .ok (numV (strB x.2) :: ns) | .error p => .error p) else .error x.1
def secW (l : List Wd) : Except (Nat × Nat) Sec :=
 match l with
 | [] => .error (0, 24)
 | k :: l =>
  if l.length ≠ (if k.2 = kBox then 5 else 3) then .error (k.1, 24)
  else match numsW l with
   | .error p => .error (p, 20)
   | .ok [h, a0, a1] => .ok ⟨true, h, a0, 0, a1, 0⟩
   | .ok [h, a0, b0, a1, b1] => .ok ⟨false, h, a0, b0, a1, b1⟩
   | .ok _ => .error (k.1, 24)
def threeW (m0 m1 m2 : Nat) (a b c : Wd) : Except (Nat × Nat) (Nat × Nat × Nat) :=
 if numOk (strB a.2) = false ∨ m0 < numV (strB a.2) ∨ numV (strB a.2) < 1 then .error (a.1, 20)
 else if numOk (strB b.2) = false ∨ m1 < numV (strB b.2) ∨ numV (strB b.2) < 1 then .error (b.1, 20)
 else if numOk (strB c.2) = false ∨ m2 < numV (strB c.2) then .error (c.1, 20)
 else .ok (numV (strB a.2), numV (strB b.2), numV (strB c.2))
def recW (had : List Wr) (most m0 m1 m2 : Nat) (l : List Wd) : Except (Nat × Nat) Wr :=
 match l with
 | [k, n, a, b, c] =>
  if most ≤ had.length then .error (k.1, 27)
  else if nameS (strB n.2) = false ∨ namedW had (strB n.2) = true then .error (n.1, 25)
  else match threeW m0 m1 m2 a b c with
   | .error e => .error e
   | .ok (x, y, z) => .ok ⟨strB n.2, x, y, z, []⟩
 | k :: _ => .error (k.1, 24)
 | [] => .error (0, 24)
def fillW (d : Dk) (l : List Wd) : Except (Nat × Nat) Fl :=
 match l with
 | [_, p, v] =>
  match wellL p.2 with
  | none => .error (p.1, 26)
  | some (n, r, c) =>
   if hasW d.ws (strB n) r c = false ∨ filledW d.fs (strB n) r c = true then .error (p.1, 26)
   else if numOk (strB v.2) = false ∨ 20000000 < numV (strB v.2) then .error (v.1, 20)
   else .ok ⟨strB n, r, c, numV (strB v.2)⟩
 | k :: _ => .error (k.1, 24)
 | [] => .error (0, 24)
def moreR (w : Wr) (s : Sec) : Wr := { w with l := w.l ++ [s] }
def moreW : List Wr → Sec → List Wr
 | [], _ => []
 | [w], s => [moreR w s]
 | w :: ws, s => w :: moreW ws s
def lastL : List Wr → List Sec
 | [] => []
 | [w] => w.l
 | _ :: ws => lastL ws
def wholeD (d : Dk) (o : Nat) : Bool := if o = 1 then rightS (lastL d.ws) else if o = 2 then rightS (lastL d.ts) else true
def Dk.add (d : Dk) (o : Nat) (s : Sec) : Dk := if o = 1 then { d with ws := moreW d.ws s } else if o = 2 then { d with ts := moreW d.ts s } else d
def parseD : List (List Wd) → Dk → Nat → Nat → Dk × List (List Wd) × Nat × Nat
 | [], d, o, f => if wholeD d o then (d, [], 0, 0) else (dk0, [], f, 23)
 | [] :: L, d, o, f => parseD L d o f
 | (k :: x) :: L, d, o, f =>
  if k.2 = kRound ∨ k.2 = kBox then
   if o = 0 then (dk0, [], k.1, 24)
   else match secW (k :: x) with
    | .error e => (dk0, [], e.1, e.2)
    | .ok s => parseD L (d.add o s) o f
  else if wholeD d o = false then (dk0, [], f, 23)
  else if k.2 = kWare then
   match recW d.ws 8 8 12 1000000 (k :: x) with
   | .error e => (dk0, [], e.1, e.2)
   | .ok w => parseD L { d with ws := d.ws ++ [w] } 1 k.1
  else if k.2 = kTip then
   match recW d.ts 4 20000000 60000 10000 (k :: x) with
   | .error e => (dk0, [], e.1, e.2)
   | .ok t => parseD L { d with ts := d.ts ++ [t] } 2 k.1
  else if k.2 = kFill then
   match fillW d (k :: x) with
   | .error e => (dk0, [], e.1, e.2)
   | .ok v => parseD L { d with fs := d.fs ++ [v] } 0 k.1
  else (d, (k :: x) :: L, 0, 0)
def wareOk (w : Wr) : Bool := nameS w.n && inB w.x 1 8 && inB w.y 1 12 && inB w.z 0 1000000 && rightS w.l
def tipOk (t : Wr) : Bool := nameS t.n && rightS t.l && inB t.x 1 20000000 && inB t.y 1 60000 && inB t.z 0 10000
def apartW (ok : Wr → Bool) (ws : List Wr) : Bool := (List.range ws.length).all fun i => match ws[i]? with
 | some w => ok w && !namedW (ws.take i) w.n
 | none => true
def fillsOk (ws : List Wr) (fs : List Fl) : Bool := (List.range fs.length).all fun i => match fs[i]? with
 | some f => hasW ws f.n f.r f.c && inB f.v 0 20000000 && !filledW (fs.take i) f.n f.r f.c
 | none => true
def rightD (d : Dk) : Bool := decide (d.ws.length ≤ 8) && decide (d.ts.length ≤ 4) && apartW wareOk d.ws && apartW tipOk d.ts && fillsOk d.ws d.fs
def decI (x : Int) : List UInt8 := Lib.decDigits x.toNat
def wellT (n : ByteArray) (r c : Int) : List UInt8 := if nameS n = true ∧ 0 ≤ r ∧ r < 8 ∧ 0 ≤ c ∧ c < 12 then n.data.toList ++ [46, UInt8.ofNat (65 + r.toNat)] ++ decI (c + 1) else []
def secL (s : Sec) : List (List UInt8) := if s.r then [kRound, decI s.h, decI s.a0, decI s.a1] else [kBox, decI s.h, decI s.a0, decI s.b0, decI s.a1, decI s.b1]
def recL (k : List UInt8) (w : Wr) : List (List (List UInt8)) := [k, w.n.data.toList, decI w.x, decI w.y, decI w.z] :: w.l.map secL
def fillL (f : Fl) : List (List UInt8) := [kFill, wellT f.n f.r f.c, decI f.v]
def deckL (d : Dk) : List (List (List UInt8)) := d.ws.flatMap (recL kWare) ++ d.ts.flatMap (recL kTip) ++ d.fs.map fillL
def lineT : List (List UInt8) → List UInt8
 | [] => [10]
 | [w] => w ++ [10]
 | w :: ws => w ++ 32 :: lineT ws
def textD (d : Dk) : List UInt8 := if rightD d then (deckL d).flatMap lineT else []
end Go.Proofs.YtglniapfnhedoaaGreatDoor
namespace Go.Proofs.YtglniapfnhedoaaGreatDoor
open Go.RowKit
structure FlAt (w : World) (p : Addr) (f : Fl) : Prop where
 n : w.cell? p = some (.string f.n)
 r : w.cell? ⟨p.block, p.off + 1, none⟩ = some (.int .i64 f.r)
 c : w.cell? ⟨p.block, p.off + 2, none⟩ = some (.int .i64 f.c)
 v : w.cell? ⟨p.block, p.off + 3, none⟩ = some (.int .i64 f.v)
theorem FlAt.keepB {w w' : World} {p : Addr} {f : Fl} (h : FlAt w p f) (q : B w w') : FlAt w' p f := ⟨q.keep h.n, q.keep h.r, q.keep h.c, q.keep h.v⟩
def IsFls (w : World) (v : Value) (L : List Fl) : Prop :=
 (v = .slice none 0 0 ∧ L = []) ∨
 ∃ (a : Addr) (cap : Nat), v = .slice (some a) L.length cap ∧ L.length ≤ cap ∧ cap ≤ maxLen ∧ ∀ i f, L[i]? = some f → FlAt w (a.add (i * 4)) f
theorem IsFls.keepB {w w' : World} {v : Value} {L : List Fl} (h : IsFls w v L) (q : B w w') : IsFls w' v L := by
 rcases h with h | ⟨a, cap, h1, h2, h3, h4⟩
 ·exact .inl h
 ·exact .inr ⟨a, cap, h1, h2, h3, fun i f hf => (h4 i f hf).keepB q⟩
theorem IsFls.form {w : World} {v : Value} {L : List Fl} (h : IsFls w v L) : ∃ ao cap, v = .slice ao L.length cap := by
 rcases h with ⟨rfl, rfl⟩ | ⟨a, cap, rfl, _⟩
 ·exact ⟨_, _, rfl⟩
 ·exact ⟨_, _, rfl⟩
theorem IsFls.at_ {w : World} {v : Value} {L : List Fl} (h : IsFls w v L) {i : Nat} (hi : i < L.length) : ∃ (a : Addr) (cap : Nat), v = .slice (some a) L.length cap ∧ L.length ≤ cap ∧ cap ≤ maxLen ∧ FlAt w (a.add (i * 4)) L[i] := by
 rcases h with ⟨_, rfl⟩ | ⟨a, cap, h1, h2, h3, h4⟩
 ·simp at hi
 ·exact ⟨a, cap, h1, h2, h3, h4 i _ (List.getElem?_eq_getElem hi)⟩
structure IsDk (w : World) (wv tv fv : Value) (d : Dk) : Prop where
 ws : IsRecs w wv d.ws
 ts : IsRecs w tv d.ts
 fs : IsFls w fv d.fs
theorem IsDk.keepB {w w' : World} {wv tv fv : Value} {d : Dk} (h : IsDk w wv tv fv d) (q : B w w') : IsDk w' wv tv fv d := ⟨h.ws.keepB q, h.ts.keepB q, h.fs.keepB q⟩
theorem len_max {n : Nat} {cap : Nat} (h : n ≤ cap) (h2 : cap ≤ maxLen) : n ≤ 9223372036854775807 := by unfold maxLen at h2; omega
theorem IsRecs.len {w : World} {v : Value} {L : List Rec} (h : IsRecs w v L) : L.length ≤ 9223372036854775807 := by
 rcases h with ⟨_, rfl⟩ | ⟨a, cap, _, h2, h3, _⟩
 ·simp
 ·exact len_max h2 h3
theorem IsFls.len {w : World} {v : Value} {L : List Fl} (h : IsFls w v L) : L.length ≤ 9223372036854775807 := by
 rcases h with ⟨_, rfl⟩ | ⟨a, cap, _, h2, h3, _⟩
 ·simp
 ·exact len_max h2 h3
theorem secs_form {w : World} {v : Value} {l : List Sec} (h : IsSecs w v l) : ∃ ao cap, v = .slice ao l.length cap := by
 rcases h with ⟨rfl, rfl⟩ | ⟨a, cap, rfl, _⟩
 ·exact ⟨_, _, rfl⟩
 ·exact ⟨_, _, rfl⟩
end Go.Proofs.YtglniapfnhedoaaGreatDoor
namespace Go.Proofs.YtglniapfnhedoaaGreatDoor
open Go.RowKit
theorem IsDk.forms {w : World} {wv tv fv : Value} {d : Dk} (h : IsDk w wv tv fv d) : ∃ ao ac bo bc co cc, wv = .slice ao d.ws.length ac ∧ tv = .slice bo d.ts.length bc ∧ fv = .slice co d.fs.length cc := by
 obtain ⟨ao, ac, h1⟩ := h.ws.form
 obtain ⟨bo, bc, h2⟩ := h.ts.form
 obtain ⟨co, cc, h3⟩ := h.fs.form
 exact ⟨ao, ac, bo, bc, co, cc, h1, h2, h3⟩
theorem named_yes {ws : List Wr} {s : ByteArray} {i : Nat} (hi : i < ws.length) (h : ((ws[i]).n.toList == s.toList) = true) : namedW ws s = true := List.any_eq_true.2 ⟨_, List.getElem_mem hi, h⟩
theorem named_no {ws : List Wr} {s : ByteArray} (h : ∀ i (hi : i < ws.length), ((ws[i]).n.toList == s.toList) = false) : namedW ws s = false := by
 refine List.any_eq_false.2 fun x hx => ?_
 obtain ⟨i, hi, rfl⟩ := List.getElem_of_mem hx
 rw [h i hi]
 decide
end Go.Proofs.YtglniapfnhedoaaGreatDoor
namespace Go.Proofs.YtglniapfnhedoaaGreatDoor
open Go.RowKit
theorem r8wnamed_any (wv tv fv : Value) (d : Dk) (s : ByteArray) (w : World) (h : IsDk w wv tv fv d) : Calls Tryz.prog 32 #[.agg #[wv, tv, fv], .string s] w fun e w' => e = .returned (.bool (namedW d.ws s)) ∧ Q w w' := by
 obtain ⟨ao, ac, bo, bc, co, cc, rfl, rfl, rfl⟩ := h.forms
 have hQ := (Q.refl w).alloc #[.slice ao d.ws.length ac, .slice bo d.ts.length bc, .slice co d.fs.length cc] 26
 have hR := h.ws.keepB hQ.b
 have hlen := h.ws.len
 have k0 : (w.alloc (.cells #[.slice ao d.ws.length ac, .slice bo d.ts.length bc, .slice co d.fs.length cc] 26)).cell? ⟨w.heap.size, 0, none⟩ = some (.slice ao d.ws.length ac) := by rw [World.cell?_alloc_new]; rfl
 replace hQ := Lib.hid hQ
 clear h
 go_enter Tryz.func32, Tryz.ntmps32
 go_wp2
 generalize w.alloc (.cells #[.slice ao d.ws.length ac, .slice bo d.ts.length bc, .slice co d.fs.length cc] 26) = W at *
 generalize w.heap.size = H at *
 go_loopw [5] (fun iv wr => ∃ i : Nat, i ≤ d.ws.length ∧ iv = .int .i64 i ∧ (∀ j (hj : j < d.ws.length), j < i → ((d.ws[j]).n.toList == s.toList) = false) ∧ W = wr) (fun iv _ => d.ws.length + 1 - (intOf iv).toNat)
 case atStart => exact ⟨0, Nat.zero_le _, rfl, fun j _ hj => by omega, rfl⟩
 case round =>
  obtain ⟨i, hi, rfl, hall, rfl⟩ := hrel
  by_cases hl : i < d.ws.length
  ·have hlB : decide ((i : Int) < (d.ws.length : Int)) = true := decide_eq_true (by omega)
   have hlI : (i : Int) < (d.ws.length : Int) := by omega
   have hi0 : (0 : Int) ≤ (i : Int) := by omega
   have wk1 : IntKind.i64.wrap ((i : Int) + 1) = (i : Int) + 1 := by rw [IntKind.wrap_i64]; omega
   obtain ⟨a, cap, e1, _, _, hr⟩ := hR.at_ hl
   obtain ⟨rfl, _, rfl⟩ : ao = some a ∧ True ∧ ac = cap := by simpa using e1
   have hn := hr.n
   cases hc : (d.ws[i]).n.toList == s.toList
   ·have HA := Lib.hid (show ∀ j (hj : j < d.ws.length), j < i + 1 → ((d.ws[j]).n.toList == s.toList) = false from fun j hj hj2 => by
     by_cases c : j = i
     ·subst c; exact hc
     ·exact hall j hj (by omega))
    have HL := Lib.hid hl
    generalize d.ws[i].n = N at *
    clear hall hr hR e1 hl hi hlen
    go_wp2
    go_roundw
    case rel => exact ⟨i + 1, by have := HL.out; omega, by go_num, HA.out, trivial⟩
    case measure => have := HL.out; simp [intOf]; omega
   ·have hy := Lib.hid (named_yes hl hc)
    generalize d.ws[i].n = N at *
    clear hall hr hR e1 hi hlen
    go_wp2
    go_ret
    exact ⟨by rw [hy.out]; rfl, hQ.out⟩
  ·have hlB : decide ((i : Int) < (d.ws.length : Int)) = false := decide_eq_false (by omega)
   have hno := Lib.hid (named_no (ws := d.ws) (s := s) (fun j hj => hall j hj (by omega)))
   clear hall hR hi hlen
   go_wp2
   go_ret
   exact ⟨by rw [hno.out]; rfl, hQ.out⟩
theorem r8tnamed_any (wv tv fv : Value) (d : Dk) (s : ByteArray) (w : World) (h : IsDk w wv tv fv d) : Calls Tryz.prog 36 #[.agg #[wv, tv, fv], .string s] w fun e w' => e = .returned (.bool (namedW d.ts s)) ∧ Q w w' := by
 obtain ⟨ao, ac, bo, bc, co, cc, rfl, rfl, rfl⟩ := h.forms
 have hQ := (Q.refl w).alloc #[.slice ao d.ws.length ac, .slice bo d.ts.length bc, .slice co d.fs.length cc] 26
 have hR := h.ts.keepB hQ.b
 have hlen := h.ts.len
 have k0 : (w.alloc (.cells #[.slice ao d.ws.length ac, .slice bo d.ts.length bc, .slice co d.fs.length cc] 26)).cell? ⟨w.heap.size, 1, none⟩ = some (.slice bo d.ts.length bc) := by rw [World.cell?_alloc_new]; rfl
 replace hQ := Lib.hid hQ
 clear h
 go_enter Tryz.func36, Tryz.ntmps36
 go_wp2
 generalize w.alloc (.cells #[.slice ao d.ws.length ac, .slice bo d.ts.length bc, .slice co d.fs.length cc] 26) = W at *
 generalize w.heap.size = H at *
 go_loopw [5] (fun iv wr => ∃ i : Nat, i ≤ d.ts.length ∧ iv = .int .i64 i ∧ (∀ j (hj : j < d.ts.length), j < i → ((d.ts[j]).n.toList == s.toList) = false) ∧ W = wr) (fun iv _ => d.ts.length + 1 - (intOf iv).toNat)
 case atStart => exact ⟨0, Nat.zero_le _, rfl, fun j _ hj => by omega, rfl⟩
 case round =>
  obtain ⟨i, hi, rfl, hall, rfl⟩ := hrel
  by_cases hl : i < d.ts.length
  ·have hlB : decide ((i : Int) < (d.ts.length : Int)) = true := decide_eq_true (by omega)
   have hlI : (i : Int) < (d.ts.length : Int) := by omega
   have hi0 : (0 : Int) ≤ (i : Int) := by omega
   have wk1 : IntKind.i64.wrap ((i : Int) + 1) = (i : Int) + 1 := by rw [IntKind.wrap_i64]; omega
   obtain ⟨a, cap, e1, _, _, hr⟩ := hR.at_ hl
   obtain ⟨rfl, _, rfl⟩ : bo = some a ∧ True ∧ bc = cap := by simpa using e1
   have hn := hr.n
   cases hc : (d.ts[i]).n.toList == s.toList
   ·have HA := Lib.hid (show ∀ j (hj : j < d.ts.length), j < i + 1 → ((d.ts[j]).n.toList == s.toList) = false from fun j hj hj2 => by
     by_cases c : j = i
     ·subst c; exact hc
     ·exact hall j hj (by omega))
    have HL := Lib.hid hl
    generalize d.ts[i].n = N at *
    clear hall hr hR e1 hl hi hlen
    go_wp2
    go_roundw
    case rel => exact ⟨i + 1, by have := HL.out; omega, by go_num, HA.out, trivial⟩
    case measure => have := HL.out; simp [intOf]; omega
   ·have hy := Lib.hid (named_yes hl hc)
    generalize d.ts[i].n = N at *
    clear hall hr hR e1 hi hlen
    go_wp2
    go_ret
    exact ⟨by rw [hy.out]; rfl, hQ.out⟩
  ·have hlB : decide ((i : Int) < (d.ts.length : Int)) = false := decide_eq_false (by omega)
   have hno := Lib.hid (named_no (ws := d.ts) (s := s) (fun j hj => hall j hj (by omega)))
   clear hall hR hi hlen
   go_wp2
   go_ret
   exact ⟨by rw [hno.out]; rfl, hQ.out⟩
end Go.Proofs.YtglniapfnhedoaaGreatDoor
namespace Go.Proofs.YtglniapfnhedoaaGreatDoor
open Go.RowKit
theorem light_any (v : Value) (l : List Sec) (w : World) (hv : IsSecs w v l) (b : Bool) (hb : decide ((l.length : Int) ≤ 6) = b) :
  Calls Tryz.prog 16 #[v] w fun e w' => e = .returned (.bool b) ∧ w = w' := by
 obtain ⟨va, vc, rfl⟩ : ∃ va vc, v = .slice va l.length vc := by
  rcases hv with ⟨rfl, rfl⟩ | ⟨b, cb, rfl, _⟩
  ·exact ⟨_, _, rfl⟩
  ·exact ⟨_, _, rfl⟩
 clear hv
 go_enter Tryz.func16, Tryz.ntmps16
 go_wp2
 go_ret
 exact ⟨rfl, rfl⟩
end Go.Proofs.YtglniapfnhedoaaGreatDoor
namespace Go.Proofs.YtglniapfnhedoaaGreatDoor
open Go.RowKit
def lightR (r : Rec) : Bool := decide (r.n.size ≤ 30) && decide (r.l.length ≤ 6)
def lightD (d : Dk) : Bool := decide (d.ws.length ≤ 10) && (decide (d.ts.length ≤ 6) && (decide (d.fs.length ≤ 30) && (d.ws.all lightR && d.ts.all lightR)))
theorem dec_int (n : Nat) : decide (n ≤ 6) = decide ((n : Int) ≤ 6) := by rcases Nat.lt_or_ge 6 n with h | h <;> simp <;> omega
theorem light_step {l : List Rec} {i : Nat} (hi : i < l.length) (h : ∀ j (hj : j < l.length), j < i → lightR l[j] = true) :
  (lightR l[i] = true → ∀ j (hj : j < l.length), j < i + 1 → lightR l[j] = true) ∧ (lightR l[i] = false → l.all lightR = false) := by
 refine ⟨fun e j hj hj2 => ?_, fun e => ?_⟩
 ·by_cases c : j = i
  ·subst c; exact e
  ·exact h j hj (by omega)
 ·rw [List.all_eq_false]
  exact ⟨_, List.getElem_mem hi, by rw [e]; decide⟩
theorem light_all {l : List Rec} (h : ∀ j (hj : j < l.length), lightR l[j] = true) : l.all lightR = true := by
 rw [List.all_eq_true]
 intro x hx
 obtain ⟨i, hi, rfl⟩ := List.getElem_of_mem hx
 exact h i hi
set_option maxHeartbeats 2000000 in
theorem lightdeck_any (wv tv fv : Value) (d : Dk) (w : World) (h : IsDk w wv tv fv d) : Calls Tryz.prog 5 #[.agg #[wv, tv, fv]] w fun e w' => e = .returned (.bool (lightD d)) ∧ Q w w' := by
 obtain ⟨ao, ac, bo, bc, co, cc, rfl, rfl, rfl⟩ := h.forms
 have hQ := (Q.refl w).alloc #[.slice ao d.ws.length ac, .slice bo d.ts.length bc, .slice co d.fs.length cc] 26
 have hR0 := h.ws.keepB hQ.b
 have hR1 := h.ts.keepB hQ.b
 have hlen0 := h.ws.len
 have hlen1 := h.ts.len
 have k0 : (w.alloc (.cells #[.slice ao d.ws.length ac, .slice bo d.ts.length bc, .slice co d.fs.length cc] 26)).cell? ⟨w.heap.size, 0, none⟩ = some (.slice ao d.ws.length ac) := by rw [World.cell?_alloc_new]; rfl
 have k1 : (w.alloc (.cells #[.slice ao d.ws.length ac, .slice bo d.ts.length bc, .slice co d.fs.length cc] 26)).cell? ⟨w.heap.size, 1, none⟩ = some (.slice bo d.ts.length bc) := by rw [World.cell?_alloc_new]; rfl
 have k2 : (w.alloc (.cells #[.slice ao d.ws.length ac, .slice bo d.ts.length bc, .slice co d.fs.length cc] 26)).cell? ⟨w.heap.size, 2, none⟩ = some (.slice co d.fs.length cc) := by rw [World.cell?_alloc_new]; rfl
 replace hQ := Lib.hid hQ
 clear h
 go_enter Tryz.func5, Tryz.ntmps5
 unfold lightD
 by_cases n0 : 10 < d.ws.length
 ·have n0B : decide ((10 : Int) < (d.ws.length : Int)) = true := decide_eq_true (by omega)
  rw [decide_eq_false (by omega : ¬ d.ws.length ≤ 10)]
  clear hR0 hR1 hlen0 hlen1
  go_wp2
  go_ret
  exact ⟨rfl, hQ.out⟩
 have n0B : decide ((10 : Int) < (d.ws.length : Int)) = false := decide_eq_false (by omega)
 rw [decide_eq_true (by omega : d.ws.length ≤ 10), Bool.true_and]
 by_cases n1 : 6 < d.ts.length
 ·have n1B : decide ((6 : Int) < (d.ts.length : Int)) = true := decide_eq_true (by omega)
  rw [decide_eq_false (by omega : ¬ d.ts.length ≤ 6)]
  clear hR0 hR1 hlen0 hlen1
  go_wp2
  go_ret
  exact ⟨rfl, hQ.out⟩
 have n1B : decide ((6 : Int) < (d.ts.length : Int)) = false := decide_eq_false (by omega)
 rw [decide_eq_true (by omega : d.ts.length ≤ 6), Bool.true_and]
 by_cases n2 : 30 < d.fs.length
 ·have n2B : decide ((30 : Int) < (d.fs.length : Int)) = true := decide_eq_true (by omega)
  rw [decide_eq_false (by omega : ¬ d.fs.length ≤ 30)]
  clear hR0 hR1 hlen0 hlen1
  go_wp2
  go_ret
  exact ⟨rfl, hQ.out⟩
 have n2B : decide ((30 : Int) < (d.fs.length : Int)) = false := decide_eq_false (by omega)
 rw [decide_eq_true (by omega : d.fs.length ≤ 30), Bool.true_and]
 go_wp2
 generalize w.alloc (.cells #[.slice ao d.ws.length ac, .slice bo d.ts.length bc, .slice co d.fs.length cc] 26) = W at *
 generalize w.heap.size = H at *
 clear n0 n1 n2 n0B n1B n2B
 go_loopw [3] (fun iv wr => ∃ i : Nat, i ≤ d.ws.length ∧ iv = .int .i64 i ∧ (∀ j (hj : j < d.ws.length), j < i → lightR d.ws[j] = true) ∧ W = wr) (fun iv _ => d.ws.length + 1 - (intOf iv).toNat)
 case atStart => exact ⟨0, Nat.zero_le _, rfl, fun j _ hj => by omega, rfl⟩
 case round =>
  obtain ⟨i, hi, rfl, hall, rfl⟩ := hrel
  by_cases hl : i < d.ws.length
  ·have hlB : decide ((i : Int) < (d.ws.length : Int)) = true := decide_eq_true (by omega)
   have hlI : (i : Int) < (d.ws.length : Int) := by omega
   have hi0 : (0 : Int) ≤ (i : Int) := by omega
   have wk1 : IntKind.i64.wrap ((i : Int) + 1) = (i : Int) + 1 := by rw [IntKind.wrap_i64]; omega
   obtain ⟨a, cap, e1, _, _, hr⟩ := hR0.at_ hl
   obtain ⟨rfl, _, rfl⟩ : ao = some a ∧ True ∧ ac = cap := by simpa using e1
   have hn := hr.n
   obtain ⟨sv, g5, g6⟩ := hr.l
   have hF := light_step (l := d.ws) hl hall
   generalize d.ws[i] = F at *
   obtain ⟨N, X, Y, Z, SL⟩ := F
   simp only at hn g5 g6 hF
   have ht := light_any sv SL _ g6 _ rfl
   have HL := Lib.hid hl
   cases c1 : decide ((30 : Int) < (N.size : Int))
   ·cases c2 : decide ((SL.length : Int) ≤ 6)
    ·rw [c2] at ht
     have HF := Lib.hid (hF.2 (by simp only [lightR]; rw [Bool.and_eq_false_iff]; right; rw [← c2]; exact dec_int _))
     clear hall hr hR0 hR1 e1 hl hi hlen0 hlen1 g6 hF
     go_wp2_with fail
     refine (Calls.mono ht ?_)
     rintro _ _ ⟨rfl, rfl⟩
     go_wp2
     go_ret
     exact ⟨by rw [HF.out]; simp, hQ.out⟩
    ·rw [c2] at ht
     have HA := Lib.hid (hF.1 (by simp only [lightR]; rw [Bool.and_eq_true]; exact ⟨by have := of_decide_eq_false c1; exact decide_eq_true (by omega), by have := of_decide_eq_true c2; exact decide_eq_true (by omega)⟩))
     clear hall hr e1 hl hi g6 hF
     go_wp2_with fail
     refine (Calls.mono ht ?_)
     rintro _ _ ⟨rfl, rfl⟩
     go_wp2
     go_roundw
     case rel => exact ⟨i + 1, by have := HL.out; omega, by go_num, HA.out, trivial⟩
     case measure => have := HL.out; simp [intOf]; omega
   ·have HF := Lib.hid (hF.2 (by simp only [lightR]; rw [Bool.and_eq_false_iff]; left; have := of_decide_eq_true c1; exact decide_eq_false (by omega)))
    clear hall hr hR0 hR1 e1 hl hi hlen0 hlen1 g6 hF ht
    go_wp2
    go_ret
    exact ⟨by rw [HF.out]; simp, hQ.out⟩
  ·have hlB : decide ((i : Int) < (d.ws.length : Int)) = false := decide_eq_false (by omega)
   have hyes0 := Lib.hid (light_all (l := d.ws) (fun j hj => hall j hj (by omega)))
   clear hall hR0 hi hlen0
   go_wp2
   go_loopw [4] (fun iv wr => ∃ i : Nat, i ≤ d.ts.length ∧ iv = .int .i64 i ∧ (∀ j (hj : j < d.ts.length), j < i → lightR d.ts[j] = true) ∧ W = wr) (fun iv _ => d.ts.length + 1 - (intOf iv).toNat)
   case atStart => exact ⟨0, Nat.zero_le _, rfl, fun j _ hj => by omega, rfl⟩
   case round =>
    clear hl hlB
    obtain ⟨i, hi, rfl, hall, rfl⟩ := hrel
    by_cases hl : i < d.ts.length
    ·have hlB : decide ((i : Int) < (d.ts.length : Int)) = true := decide_eq_true (by omega)
     have hlI : (i : Int) < (d.ts.length : Int) := by omega
     have hi0 : (0 : Int) ≤ (i : Int) := by omega
     have wk1 : IntKind.i64.wrap ((i : Int) + 1) = (i : Int) + 1 := by rw [IntKind.wrap_i64]; omega
     obtain ⟨a, cap, e1, _, _, hr⟩ := hR1.at_ hl
     obtain ⟨rfl, _, rfl⟩ : bo = some a ∧ True ∧ bc = cap := by simpa using e1
     have hn := hr.n
     obtain ⟨sv, g5, g6⟩ := hr.l
     have hF := light_step (l := d.ts) hl hall
     generalize d.ts[i] = F at *
     obtain ⟨N, X, Y, Z, SL⟩ := F
     simp only at hn g5 g6 hF
     have ht := light_any sv SL _ g6 _ rfl
     have HL := Lib.hid hl
     cases c1 : decide ((30 : Int) < (N.size : Int))
     ·cases c2 : decide ((SL.length : Int) ≤ 6)
      ·rw [c2] at ht
       have HF := Lib.hid (hF.2 (by simp only [lightR]; rw [Bool.and_eq_false_iff]; right; rw [← c2]; exact dec_int _))
       clear hall hr hR1 e1 hl hi hlen1 g6 hF
       go_wp2_with fail
       refine (Calls.mono ht ?_)
       rintro _ _ ⟨rfl, rfl⟩
       go_wp2
       go_ret
       exact ⟨by rw [HF.out]; simp, hQ.out⟩
      ·rw [c2] at ht
       have HA := Lib.hid (hF.1 (by simp only [lightR]; rw [Bool.and_eq_true]; exact ⟨by have := of_decide_eq_false c1; exact decide_eq_true (by omega), by have := of_decide_eq_true c2; exact decide_eq_true (by omega)⟩))
       clear hall hr e1 hl hi g6 hF
       go_wp2_with fail
       refine (Calls.mono ht ?_)
       rintro _ _ ⟨rfl, rfl⟩
       go_wp2
       go_roundw
       case rel => exact ⟨i + 1, by have := HL.out; omega, by go_num, HA.out, trivial⟩
       case measure => have := HL.out; simp [intOf]; omega
     ·have HF := Lib.hid (hF.2 (by simp only [lightR]; rw [Bool.and_eq_false_iff]; left; have := of_decide_eq_true c1; exact decide_eq_false (by omega)))
      clear hall hr hR1 e1 hl hi hlen1 g6 hF ht
      go_wp2
      go_ret
      exact ⟨by rw [HF.out]; simp, hQ.out⟩
    ·have hlB : decide ((i : Int) < (d.ts.length : Int)) = false := decide_eq_false (by omega)
     have hyes := Lib.hid (light_all (l := d.ts) (fun j hj => hall j hj (by omega)))
     clear hall hR1 hi hlen1
     go_wp2
     go_ret
     exact ⟨by rw [hyes0.out, hyes.out]; rfl, hQ.out⟩
end Go.Proofs.YtglniapfnhedoaaGreatDoor
namespace Go.Proofs.YtglniapfnhedoaaGreatDoor
open Go.RowKit
def shapeOf : Nat → List Sec
 | 0 => [⟨true, 10000, 7000, 0, 7000, 0⟩]
 | 1 => [⟨true, 3000, 0, 0, 6000, 0⟩, ⟨true, 9000, 6000, 0, 6500, 0⟩]
 | 2 => [⟨false, 20000, 8000, 8000, 8400, 8400⟩]
 | 3 => [⟨false, 4000, 7000, 0, 7000, 7000⟩, ⟨false, 8000, 7000, 7000, 7000, 7000⟩]
 | 4 => [⟨true, 1800, 5000, 0, 5000, 0⟩]
 | _ => [⟨true, 2000, 1000, 0, 5200, 0⟩, ⟨true, 500, 5200, 0, 4800, 0⟩, ⟨true, 11500, 4800, 0, 7000, 0⟩]
def Shaped (l : List Sec) (w : World) (e : Ending) (w' : World) : Prop := ∃ v, e = .returned v ∧ IsSecs w' v l ∧ Q w w'
def fitsB (l : List Sec) : Bool := l.all fun s => decide (I64 s.h) && decide (I64 s.a0) && decide (I64 s.b0) && decide (I64 s.a1) && decide (I64 s.b1)
theorem fitsB_I {l : List Sec} (h : fitsB l = true) : ∀ s ∈ l, s.I := by
 intro s hs
 have := List.all_eq_true.1 h s hs
 simp only [Bool.and_eq_true, decide_eq_true_eq] at this
 exact ⟨this.1.1.1.1, this.1.1.1.2, this.1.1.2, this.1.2, this.2⟩
theorem shape_pick (w : World) (m : Nat) (h : m < 6) : ∃ V, [Value.slice (some ⟨w.heap.size, 0, none⟩) 1 1, Value.slice (some ⟨w.heap.size + 1, 0, none⟩) 2 2, Value.slice (some ⟨w.heap.size + 1 + 1, 0, none⟩) 1 1, Value.slice (some ⟨w.heap.size + 1 + 1 + 1, 0, none⟩) 2 2, Value.slice (some ⟨w.heap.size + 1 + 1 + 1 + 1, 0, none⟩) 1 1, Value.slice (some ⟨w.heap.size + 1 + 1 + 1 + 1 + 1, 0, none⟩) 3 3][m]? = some V := by
 match m, h with
 | 0, _ => exact ⟨_, rfl⟩
 | 1, _ => exact ⟨_, rfl⟩
 | 2, _ => exact ⟨_, rfl⟩
 | 3, _ => exact ⟨_, rfl⟩
 | 4, _ => exact ⟨_, rfl⟩
 | 5, _ => exact ⟨_, rfl⟩
set_option maxHeartbeats 4000000 in
theorem shape_any (k : Int) (h1 : 0 ≤ k) (h2 : k ≤ 255) (w : World) :
  Calls Tryz.prog 17 #[.int .u8 k] w (Shaped (shapeOf (k % 6).toNat) w) := by
 obtain ⟨V, hp⟩ := shape_pick w (k % 6).toNat (by omega)
 have HP := Lib.hid hp
 have hm : (k % 6).toNat < 6 := by omega
 have HM := Lib.hid hm
 clear hm
 go_enter Tryz.func17, Tryz.ntmps17
 go_wp2
 go_ret
 refine ⟨V, rfl, ?_, ?_⟩
 ·clear hp h1 h2
  have hp := HP.out
  have hm := HM.out
  clear HP HM
  generalize (k % 6).toNat = m at *
  match m, hm with
  | 0, _ =>
   obtain rfl : Value.slice (some ⟨w.heap.size, 0, none⟩) 1 1 = V := Option.some.inj hp
   exact (isSecs_new (l := shapeOf 0) rfl (by simp) (fitsB_I (by decide)) (by decide) (by decide)).keep (((((((Q.refl _).alloc _ _).alloc _ _).alloc _ _).alloc _ _).alloc _ _).alloc _ _)
  | 1, _ =>
   obtain rfl : Value.slice (some ⟨w.heap.size + 1, 0, none⟩) 2 2 = V := Option.some.inj hp
   exact (isSecs_new (l := shapeOf 1) rfl (by simp) (fitsB_I (by decide)) (by decide) (by decide)).keep ((((((Q.refl _).alloc _ _).alloc _ _).alloc _ _).alloc _ _).alloc _ _)
  | 2, _ =>
   obtain rfl : Value.slice (some ⟨w.heap.size + 1 + 1, 0, none⟩) 1 1 = V := Option.some.inj hp
   exact (isSecs_new (l := shapeOf 2) rfl (by simp) (fitsB_I (by decide)) (by decide) (by decide)).keep (((((Q.refl _).alloc _ _).alloc _ _).alloc _ _).alloc _ _)
  | 3, _ =>
   obtain rfl : Value.slice (some ⟨w.heap.size + 1 + 1 + 1, 0, none⟩) 2 2 = V := Option.some.inj hp
   exact (isSecs_new (l := shapeOf 3) rfl (by simp) (fitsB_I (by decide)) (by decide) (by decide)).keep ((((Q.refl _).alloc _ _).alloc _ _).alloc _ _)
  | 4, _ =>
   obtain rfl : Value.slice (some ⟨w.heap.size + 1 + 1 + 1 + 1, 0, none⟩) 1 1 = V := Option.some.inj hp
   exact (isSecs_new (l := shapeOf 4) rfl (by simp) (fitsB_I (by decide)) (by decide) (by decide)).keep (((Q.refl _).alloc _ _).alloc _ _)
  | 5, _ =>
   obtain rfl : Value.slice (some ⟨w.heap.size + 1 + 1 + 1 + 1 + 1, 0, none⟩) 3 3 = V := Option.some.inj hp
   exact (isSecs_new (l := shapeOf 5) rfl (by simp) (fitsB_I (by decide)) (by decide) (by decide)).keep ((Q.refl _).alloc _ _)
 ·exact ((((((((Q.refl _).alloc _ _).alloc _ _).alloc _ _).alloc _ _).alloc _ _).alloc _ _).alloc _ _)
end Go.Proofs.YtglniapfnhedoaaGreatDoor
namespace Go.Proofs.YtglniapfnhedoaaGreatDoor
open Go.RowKit
theorem secs_own {w : World} {base : Nat} {e : TypeId} {ao : Option Addr} {k c : Nat} {l : List Sec} (h : w.ownsRow base e 6 (.slice ao k c) k (flat l)) (hl : l.length = k) (hk : 0 < k) (hI : ∀ s ∈ l, s.I) : IsSecs w (.slice ao k c) l := by
 have hh := h
 rcases hh.2 with ⟨_, h0⟩ | ⟨g, cap, cur, hv, _, _, h1, h2, _⟩
 ·omega
 ·simp only [Value.slice.injEq] at hv
  obtain ⟨rfl, _, rfl⟩ := hv
  subst hl
  exact isSecs_cells hI h1 h2 (fun j u hj => by have := h.cells (g := g) rfl j u hj; rwa [add0] at this)
theorem u8_wf {k : Int} (w : (Lit.int .u8 k).wf = true) : 0 ≤ k ∧ k ≤ 255 := by
 simp [Lit.wf, IntKind.min, IntKind.max, IntKind.signed, IntKind.bits] at w
 omega
theorem shape_right : ∀ m : Nat, rightS (shapeOf m) = true
 | 0 => by decide
 | 1 => by decide
 | 2 => by decide
 | 3 => by decide
 | 4 => by decide
 | n + 5 => by rw [show shapeOf (n + 5) = shapeOf 5 from rfl]; decide
theorem IsSecs.form {w : World} {v : Value} {l : List Sec} (h : IsSecs w v l) : ∃ ao n cap, v = .slice ao n cap := by
 rcases h with ⟨rfl, rfl⟩ | ⟨a, cap, rfl, _⟩
 ·exact ⟨_, _, _, rfl⟩
 ·exact ⟨_, _, _, rfl⟩
theorem news_plain {w : World} {cs : Array Value} {t : TypeId} {H : Nat} (hH : w.heap.size = H) : ∀ j u, cs.toList[j]? = some u → (w.alloc (.cells cs t)).cell? ((⟨H, 0, none⟩ : Addr).add j) = some u := by
 intro j u h
 rw [add0]
 subst hH
 rw [World.cell?_alloc_new]
 simpa using h
theorem flat_snoc (l : List Sec) (s : Sec) : flat (l ++ [s]) = flat l ++ s.cells := by simp [flat]
def TwoS (w : World) (b : Nat) : Prop := ∀ m : Nat, m < 2 → ∃ v l, w.cell? ⟨b, m, none⟩ = some v ∧ IsSecs w v l ∧ rightS l = true
theorem TwoS.keep {w w' : World} {b : Nat} (h : TwoS w b) (q : B w w') : TwoS w' b := fun m hm => by
 obtain ⟨v, l, h1, h2, h3⟩ := h m hm
 exact ⟨v, l, q.keep h1, h2.keepB q, h3⟩
end Go.Proofs.YtglniapfnhedoaaGreatDoor
