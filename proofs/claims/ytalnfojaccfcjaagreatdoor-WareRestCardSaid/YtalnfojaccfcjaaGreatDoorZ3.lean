/-
 Contracts and what they rest on.
-/
import Derived.Test.YtalnfojaccfcjaaGreatDoorChecked
import Derived.Lib.Hide
import Derived.KernelRfl
import Derived.Laws.OwnMore
import Derived.Laws.BytesArg
import Derived.OwnWalk
import Derived.Test.YtalnfojaccfcjaaGreatDoorZ1
import Derived.Test.YtalnfojaccfcjaaGreatDoorZ2
namespace Go.Proofs.YtalnfojaccfcjaaGreatDoor
open Go.RowKit
structure Rec where
 n : ByteArray
 x : Int
 y : Int
 z : Int
 l : List Sec
def Rec.cells (r : Rec) (v : Value) : List Value := [.string r.n, .int .i64 r.x, .int .i64 r.y, .int .i64 r.z, v]
structure RecAt (w : World) (p : Addr) (r : Rec) : Prop where
 n : w.cell? p = some (.string r.n)
 x : w.cell? ⟨p.block, p.off + 1, none⟩ = some (.int .i64 r.x)
 y : w.cell? ⟨p.block, p.off + 2, none⟩ = some (.int .i64 r.y)
 z : w.cell? ⟨p.block, p.off + 3, none⟩ = some (.int .i64 r.z)
 l : ∃ v, w.cell? ⟨p.block, p.off + 4, none⟩ = some v ∧ IsSecs w v r.l
theorem RecAt.keepB {w w' : World} {p : Addr} {r : Rec} (h : RecAt w p r) (q : B w w') : RecAt w' p r :=
 ⟨q.keep h.n, q.keep h.x, q.keep h.y, q.keep h.z, let ⟨v, h1, h2⟩ := h.l; ⟨v, q.keep h1, h2.keepB q⟩⟩
def IsRecs (w : World) (v : Value) (L : List Rec) : Prop :=
 (v = .slice none 0 0 ∧ L = []) ∨
 ∃ (a : Addr) (cap : Nat), v = .slice (some a) L.length cap ∧ L.length ≤ cap ∧ cap ≤ maxLen ∧ ∀ i r, L[i]? = some r → RecAt w (a.add (i * 5)) r
theorem IsRecs.keepB {w w' : World} {v : Value} {L : List Rec} (h : IsRecs w v L) (q : B w w') : IsRecs w' v L := by
 rcases h with h | ⟨a, cap, h1, h2, h3, h4⟩
 ·exact .inl h
 ·exact .inr ⟨a, cap, h1, h2, h3, fun i r hr => (h4 i r hr).keepB q⟩
theorem IsRecs.form {w : World} {v : Value} {L : List Rec} (h : IsRecs w v L) : ∃ ao cap, v = .slice ao L.length cap := by
 rcases h with ⟨rfl, rfl⟩ | ⟨a, cap, rfl, _⟩
 ·exact ⟨_, _, rfl⟩
 ·exact ⟨_, _, rfl⟩
def flatR : List Rec → List Value → List Value
 | r :: L, v :: vs => r.cells v ++ flatR L vs
 | _, _ => []
theorem flatR_get : ∀ (L : List Rec) (vs : List Value) (i j : Nat) (r : Rec) (v : Value), L[i]? = some r → vs[i]? = some v → j < 5 → (flatR L vs)[i * 5 + j]? = (r.cells v)[j]?
 | [], _, _, _, _, _, h, _, _ => by simp at h
 | _ :: _, [], _, _, _, _, _, h, _ => by simp at h
 | r :: L, v :: vs, 0, j, r', v', h, h', hj => by
  simp at h h'
  subst h h'
  rw [Nat.zero_mul, Nat.zero_add]
  show (r.cells v ++ flatR L vs)[j]? = _
  rw [List.getElem?_append_left (by simpa [Rec.cells] using hj)]
 | r :: L, v :: vs, i + 1, j, r', v', h, h', hj => by
  show (r.cells v ++ flatR L vs)[(i + 1) * 5 + j]? = _
  rw [List.getElem?_append_right (by simp [Rec.cells]; omega), show (i + 1) * 5 + j - (r.cells v).length = i * 5 + j by simp [Rec.cells]; omega]
  exact flatR_get L vs i j r' v' (by simpa using h) (by simpa using h') hj
theorem flatR_len : ∀ (L : List Rec) (vs : List Value), L.length = vs.length → (flatR L vs).length = L.length * 5
 | [], [], _ => rfl
 | [], _ :: _, h => by simp at h
 | _ :: _, [], h => by simp at h
 | r :: L, v :: vs, h => by
  show (r.cells v ++ flatR L vs).length = _
  rw [List.length_append, flatR_len L vs (by simpa using h), List.length_cons]
  simp [Rec.cells]
  omega
theorem recs_cells {w : World} {g : Nat} {cap : Nat} {L : List Rec} {vs : List Value} (hv : L.length = vs.length) (h1 : L.length ≤ cap) (h2 : cap ≤ maxLen)
  (hc : ∀ j u, (flatR L vs)[j]? = some u → w.cell? ⟨g, j, none⟩ = some u) (hs : ∀ (i : Nat) (r : Rec) (v : Value), L[i]? = some r → vs[i]? = some v → IsSecs w v r.l) : IsRecs w (.slice (some ⟨g, 0, none⟩) L.length cap) L := by
 refine .inr ⟨⟨g, 0, none⟩, cap, rfl, h1, h2, fun i r hr => ?_⟩
 have hi : i < L.length := (List.getElem?_eq_some_iff.1 hr).1
 obtain ⟨v, hvi⟩ : ∃ v, vs[i]? = some v := ⟨_, List.getElem?_eq_getElem (by omega)⟩
 have k := fun j hj u (hu : (r.cells v)[j]? = some u) => hc (i * 5 + j) u ((flatR_get L vs i j r v hr hvi hj).trans hu)
 rw [add0]
 exact ⟨k 0 (by omega) _ rfl, k 1 (by omega) _ rfl, k 2 (by omega) _ rfl, k 3 (by omega) _ rfl, v, k 4 (by omega) _ rfl, hs i r v hr hvi⟩
theorem recs_own {w : World} {base : Nat} {e : TypeId} {g c k : Nat} {L : List Rec} {vs : List Value} (h : w.ownsRow base e 5 (.slice (some ⟨g, 0, none⟩) k c) k (flatR L vs)) (hk : 0 < k) (hl : L.length = k) (hv : L.length = vs.length)
  (hs : ∀ (i : Nat) (r : Rec) (v : Value), L[i]? = some r → vs[i]? = some v → IsSecs w v r.l) : IsRecs w (.slice (some ⟨g, 0, none⟩) k c) L := by
 have hh := h
 rcases hh.2 with ⟨_, h0⟩ | ⟨g', cap, cur, hg, _, _, h1, h2, _⟩
 ·omega
 ·simp only [Value.slice.injEq, Option.some.injEq, Addr.mk.injEq] at hg
  obtain ⟨⟨rfl, _⟩, _, rfl⟩ := hg
  subst hl
  exact recs_cells hv h1 h2 (fun j u hj => by have := h.cells rfl j u hj; rwa [add0] at this) hs
theorem IsRecs.at_ {w : World} {v : Value} {L : List Rec} (h : IsRecs w v L) {i : Nat} (hi : i < L.length) : ∃ (a : Addr) (cap : Nat), v = .slice (some a) L.length cap ∧ L.length ≤ cap ∧ cap ≤ maxLen ∧ RecAt w (a.add (i * 5)) L[i] := by
 rcases h with ⟨_, rfl⟩ | ⟨a, cap, h1, h2, h3, h4⟩
 ·simp at hi
 ·exact ⟨a, cap, h1, h2, h3, h4 i _ (List.getElem?_eq_getElem hi)⟩
theorem ownsRow_keepB {w w' : World} {base : Nat} {e : TypeId} {size n : Nat} {v : Value} {xs : List Value} (h : w.ownsRow base e size v n xs) (q : B w w') : w'.ownsRow base e size v n xs :=
 h.kept (row := none) ⟨q.below.os, q.below.tape, q.below.output, q.below.size, fun k hk _ => q.below.block k hk⟩ (by cases v.ownBlock <;> simp)
def SecsV (k : Nat) (l : List Sec) : Value → World → Prop := fun v w => ∃ o n p, v = .slice o n p ∧ IsSecs w (.slice o n p) l ∧ ∀ b, (Value.slice o n p).ownBlock = some b → k ≤ b ∧ b < w.heap.size
theorem slot_secs (k : Nat) (l : List Sec) : Slot.stays (SecsV k l) := fun _ _ _ ⟨o, n, p, h1, h2, h3⟩ q => ⟨o, n, p, h1, h2.keepB q, fun b hb => ⟨(h3 b hb).1, Nat.lt_of_lt_of_le (h3 b hb).2 q.below.size⟩⟩
def RecV (k : Nat) (r : Rec) : Value → World → Prop := fun v w => ∃ o n p, v = .agg #[.string r.n, .int .i64 r.x, .int .i64 r.y, .int .i64 r.z, .slice o n p] ∧ IsSecs w (.slice o n p) r.l ∧ ∀ b, (Value.slice o n p).ownBlock = some b → k ≤ b ∧ b < w.heap.size
theorem slot_rec (k : Nat) (r : Rec) : Slot.stays (RecV k r) := fun _ _ _ ⟨o, n, p, h1, h2, h3⟩ q => ⟨o, n, p, h1, h2.keepB q, fun b hb => ⟨(h3 b hb).1, Nat.lt_of_lt_of_le (h3 b hb).2 q.below.size⟩⟩
def RecRow (k : Nat) (r : Rec) : Value → World → Prop := fun v w => ∃ b o n p, v = .slice (some ⟨b, 0, none⟩) 1 1 ∧ (∀ j u, (r.cells (.slice o n p))[j]? = some u → w.cell? ⟨b, j, none⟩ = some u) ∧ IsSecs w (.slice o n p) r.l ∧ ∀ b, (Value.slice o n p).ownBlock = some b → k ≤ b ∧ b < w.heap.size
theorem slot_recrow (k : Nat) (r : Rec) : Slot.stays (RecRow k r) := fun _ _ _ ⟨b, o, n, p, h1, h2, h3, h4⟩ q => ⟨b, o, n, p, h1, fun j u hj => q.keep (h2 j u hj), h3.keepB q, fun b hb => ⟨(h4 b hb).1, Nat.lt_of_lt_of_le (h4 b hb).2 q.below.size⟩⟩
theorem secs_lt {w : World} {v : Value} {l : List Sec} (h : IsSecs w v l) (hl : 1 ≤ l.length) {b : Nat} (hb : v.ownBlock = some b) : b < w.heap.size := by
 rcases h with ⟨rfl, rfl⟩ | ⟨a, cap, rfl, h2, h3, h4⟩
 ·simp at hl
 ·have e : a.block = b := Option.some.inj hb
  obtain ⟨s, hs⟩ : ∃ s, l[0]? = some s := ⟨_, List.getElem?_eq_getElem (by omega)⟩
  have := World.block_lt_of_cell? w _ (h4 0 s hs).2.r
  have e2 : (a.add (0 * 6)).block = a.block := by unfold Addr.add; split <;> rfl
  omega
theorem isSecs_keepOwn {S : Nat → Prop} {w w' : World} {v : Value} {l : List Sec} (h : IsSecs w v l) (hS : ∀ b, v.ownBlock = some b → ¬ S b) (q : G S w w') : IsSecs w' v l := by
 rcases h with ⟨rfl, rfl⟩ | ⟨a, cap, rfl, h2, h3, h4⟩
 ·exact .inl ⟨rfl, rfl⟩
 ·refine .inr ⟨a, cap, rfl, h2, h3, fun i s hs => ⟨(h4 i s hs).1, ?_⟩⟩
  obtain ⟨f0, f1, f2, f3, f4, f5⟩ := (h4 i s hs).2
  have hb : ¬ S (a.add (i * 6)).block := by
   have e : (a.add (i * 6)).block = a.block := by unfold Addr.add; split <;> rfl
   rw [e]
   exact hS _ rfl
  exact ⟨q.keep hb f0, q.keep hb f1, q.keep hb f2, q.keep hb f3, q.keep hb f4, q.keep hb f5⟩
theorem B.obj {w w' : World} (h : B w w') {b : Nat} {o : Obj} (ho : w.heap[b]? = some o) : w'.heap[b]? = some o :=
 (h.below.block b (Array.getElem?_eq_some_iff.1 ho).1).trans ho
theorem spot_none {w : World} {p : Addr} {s : ByteArray} (h : w.cell? p = some (.string s)) : p.spot = none := by
 cases hsp : p.spot with
 | none => rfl
 | some x =>
  unfold World.cell? at h
  split at h
  ·simp [hsp] at h
  ·cases h
theorem isRecs_keepG {S : Nat → Prop} {w w' : World} {v : Value} {L : List Rec} (h : IsRecs w v L) (hS : ∀ i, S i → ∀ k, (∀ r, w.cell? ⟨i, k, none⟩ ≠ some (.bool r)) ∧ ∀ s, w.cell? ⟨i, k, none⟩ ≠ some (.string s)) (q : G S w w') : IsRecs w' v L := by
 rcases h with ⟨rfl, rfl⟩ | ⟨a, cap, rfl, h2, h3, h4⟩
 ·exact .inl ⟨rfl, rfl⟩
 ·refine .inr ⟨a, cap, rfl, h2, h3, fun i r hr => ?_⟩
  obtain ⟨f0, f1, f2, f3, v, f4, f5⟩ := h4 i r hr
  have hsp := spot_none f0
  have hb : ¬ S (a.add (i * 5)).block := fun hs' => by
   refine (hS _ hs' (a.add (i * 5)).off).2 r.n ?_
   rw [← f0]
   congr 1
   rw [← hsp]
  exact ⟨q.keep hb f0, q.keep hb f1, q.keep hb f2, q.keep hb f3, v, q.keep hb f4, isSecs_keepG f5 (fun i hi k r => (hS i hi k).1 r) q⟩
theorem g_three (w : World) (b : Nat) (x y z : Value) : G (fun i => i = b) w (((w.setCell ⟨b, 0, none⟩ x).setCell ⟨b, 1, none⟩ y).setCell ⟨b, 2, none⟩ z) :=
 G.setCell (S := fun i => i = b) (p := ⟨b, 2, none⟩) (G.setCell (S := fun i => i = b) (p := ⟨b, 1, none⟩) (G.setCell (S := fun i => i = b) (p := ⟨b, 0, none⟩) (G.refl _ _) (.inl rfl) _) (.inl rfl) _) (.inl rfl) _
theorem b_three {u w : World} (h : B u w) {b : Nat} (hb : u.heap.size ≤ b) (x y z : Value) : B u (((w.setCell ⟨b, 0, none⟩ x).setCell ⟨b, 1, none⟩ y).setCell ⟨b, 2, none⟩ z) :=
 B.setCell (p := ⟨b, 2, none⟩) (B.setCell (p := ⟨b, 1, none⟩) (B.setCell (p := ⟨b, 0, none⟩) h hb _) hb _) hb _
theorem obj_three {w : World} {b : Nat} {x0 y0 z0 : Value} {t : TypeId} (h : w.heap[b]? = some (.cells #[x0, y0, z0] t (0, 0))) (x y z : Value) :
  (((w.setCell ⟨b, 0, none⟩ x).setCell ⟨b, 1, none⟩ y).setCell ⟨b, 2, none⟩ z).heap[b]? = some (.cells #[x, y, z] t (0, 0)) := by
 have := obj_set (obj_set (obj_set h 0 x) 1 y) 2 z
 simpa using this
end Go.Proofs.YtalnfojaccfcjaaGreatDoor
namespace Go.Proofs.YtalnfojaccfcjaaGreatDoor
open Go.RowKit
def BAt (w : World) (b o : Nat) (bs : List UInt8) : Prop := ∀ i c, bs[i]? = some c → w.cell? ⟨b, o + i, none⟩ = some (.int .u8 ((c.toNat : Nat) : Int))
theorem BAt.keep {w w' : World} {b o : Nat} {bs : List UInt8} (h : BAt w b o bs) (q : B w w') : BAt w' b o bs := fun i c hc => q.keep (h i c hc)
structure IsB (w : World) (ao : Option Addr) (cap b o : Nat) (bs : List UInt8) : Prop where
 at_ : BAt w b o bs
 ao : 0 < bs.length → ao = some ⟨b, o, none⟩
 le : bs.length ≤ cap
 max : cap ≤ maxLen
theorem IsB.keep {w w' : World} {ao : Option Addr} {cap b o : Nat} {bs : List UInt8} (h : IsB w ao cap b o bs) (q : B w w') : IsB w' ao cap b o bs := ⟨h.at_.keep q, h.ao, h.le, h.max⟩
def nums (bs : List UInt8) : List Int := bs.map fun c => ((c.toNat : Nat) : Int)
theorem nums_len (bs : List UInt8) : (nums bs).length = bs.length := by simp [nums]
theorem nums_get (bs : List UInt8) (i : Nat) (c : UInt8) (h : bs[i]? = some c) : (nums bs).getD i 0 = ((c.toNat : Nat) : Int) := by
 unfold nums
 rw [List.getD_eq_getElem?_getD, List.getElem?_map, h]
 rfl
theorem bytes_nums (bs : List UInt8) : (nums bs).map (fun n => UInt8.ofNat n.toNat) = bs := by
 unfold nums
 rw [List.map_map]
 conv => rhs; rw [← List.map_id bs]
 apply List.map_congr_left
 intro c _
 simp
theorem BAt.nums {w : World} {b o n : Nat} {bs : List UInt8} (h : BAt w b o bs) (hn : bs.length = n) : ∀ i, i < n → w.cell? ⟨b, o + i, none⟩ = some (.int .u8 ((nums bs).getD i 0)) := fun i hi => by
 have hg : bs[i]? = some bs[i] := List.getElem?_eq_getElem (by omega)
 rw [nums_get bs i _ hg]
 exact h i _ hg
theorem BAt.drop {w : World} {b o : Nat} {bs : List UInt8} (h : BAt w b o bs) (k : Nat) : BAt w b (o + k) (bs.drop k) := fun i c hc => by
 rw [List.getElem?_drop] at hc
 rw [Nat.add_assoc]
 exact h _ _ hc
theorem BAt.take {w : World} {b o : Nat} {bs : List UInt8} (h : BAt w b o bs) (k : Nat) : BAt w b o (bs.take k) := fun i c hc => by
 rw [List.getElem?_take] at hc
 split at hc
 ·exact h _ _ hc
 ·cases hc
def strB (l : List UInt8) : ByteArray := ⟨l.toArray⟩
theorem strB_size (l : List UInt8) : (strB l).size = l.length := by simp [strB, ByteArray.size]
theorem strB_nums (l : List UInt8) : strOfNums (nums l) = strB l := by
 unfold strOfNums strB
 rw [bytes_nums]
def flatW (ws : List Wd) : List Value := ws.flatMap fun x => [.int .i64 ((x.1 : Nat) : Int), .string (strB x.2)]
theorem flatW_len (ws : List Wd) : (flatW ws).length = ws.length * 2 := by
 induction ws with
 | nil => rfl
 | cons x l ih =>
  show ([_, _] ++ flatW l).length = _
  rw [List.length_append, ih, List.length_cons]
  simp
  omega
theorem flatW_get : ∀ (ws : List Wd) (i : Nat) (x : Wd), ws[i]? = some x → (flatW ws)[i * 2]? = some (.int .i64 ((x.1 : Nat) : Int)) ∧ (flatW ws)[i * 2 + 1]? = some (.string (strB x.2))
 | [], _, _, h => by simp at h
 | y :: l, 0, x, h => by
  simp at h; subst h; exact ⟨rfl, rfl⟩
 | y :: l, i + 1, x, h => by
  have ih := flatW_get l i x (by simpa using h)
  constructor
  ·show ([_, _] ++ flatW l)[(i + 1) * 2]? = _
   rw [List.getElem?_append_right (by simp; omega), show (i + 1) * 2 - ([_, _] : List Value).length = i * 2 by simp; omega]
   exact ih.1
  ·show ([_, _] ++ flatW l)[(i + 1) * 2 + 1]? = _
   rw [List.getElem?_append_right (by simp; omega), show (i + 1) * 2 + 1 - ([_, _] : List Value).length = i * 2 + 1 by simp; omega]
   exact ih.2
theorem flatW_snoc (ws : List Wd) (x : Wd) : flatW (ws ++ [x]) = flatW ws ++ [.int .i64 ((x.1 : Nat) : Int), .string (strB x.2)] := by simp [flatW]
theorem flatW_one (ws : List Wd) : ∀ u ∈ flatW ws, u.oneCell' = true := by
 intro u hu
 obtain ⟨x, _, hx⟩ := List.mem_flatMap.1 hu
 simp only [List.mem_cons, List.not_mem_nil, or_false] at hx
 rcases hx with h | h <;> rw [h] <;> rfl
def IsWords (w : World) (v : Value) (ws : List Wd) : Prop :=
 (v = .slice none 0 0 ∧ ws = []) ∨
 ∃ g cap, v = .slice (some ⟨g, 0, none⟩) ws.length cap ∧ ws.length ≤ cap ∧ cap ≤ maxLen ∧ ∀ i x, ws[i]? = some x → w.cell? ⟨g, i * 2, none⟩ = some (.int .i64 ((x.1 : Nat) : Int)) ∧ w.cell? ⟨g, i * 2 + 1, none⟩ = some (.string (strB x.2))
theorem IsWords.form {w : World} {v : Value} {ws : List Wd} (h : IsWords w v ws) : ∃ ao cap, v = .slice ao ws.length cap := by
 rcases h with ⟨rfl, rfl⟩ | ⟨g, cap, rfl, _⟩ <;> exact ⟨_, _, rfl⟩
theorem IsWords.full {w : World} {v : Value} {ws : List Wd} (h : IsWords w v ws) (hw : 0 < ws.length) : ∃ g cap, v = .slice (some ⟨g, 0, none⟩) ws.length cap ∧ ws.length ≤ cap ∧ cap ≤ maxLen ∧ g < w.heap.size ∧ ∀ i x, ws[i]? = some x → w.cell? ⟨g, i * 2, none⟩ = some (.int .i64 ((x.1 : Nat) : Int)) ∧ w.cell? ⟨g, i * 2 + 1, none⟩ = some (.string (strB x.2)) := by
 rcases h with ⟨rfl, rfl⟩ | ⟨g, cap, h1, h2, h3, h4⟩
 ·simp at hw
 ·exact ⟨g, cap, h1, h2, h3, World.block_lt_of_cell? w _ (h4 0 _ (List.getElem?_eq_getElem hw)).1, h4⟩
theorem IsWords.block {w w' : World} {v : Value} {ws : List Wd} (h : IsWords w v ws) (hb : ∀ b, v.ownBlock = some b → b < w.heap.size → w'.heap[b]? = w.heap[b]?) : IsWords w' v ws := by
 rcases h with h | ⟨g, cap, rfl, h2, h3, h4⟩
 ·exact .inl h
 ·refine .inr ⟨g, cap, rfl, h2, h3, fun i x hx => ?_⟩
  obtain ⟨k1, k2⟩ := h4 i x hx
  have hlt := World.block_lt_of_cell? w _ k1
  have e := hb g rfl hlt
  exact ⟨(World.cell?_of_block (a := ⟨g, i * 2, none⟩) e).trans k1, (World.cell?_of_block (a := ⟨g, i * 2 + 1, none⟩) e).trans k2⟩
theorem IsWords.keep {w w' : World} {v : Value} {ws : List Wd} (h : IsWords w v ws) (q : B w w') : IsWords w' v ws := h.block fun b _ hlt => q.below.block b hlt
theorem words_own {w : World} {base : Nat} {e : TypeId} {ao : Option Addr} {k c : Nat} {ws : List Wd} (h : w.ownsRow base e 2 (.slice ao k c) k (flatW ws)) (hl : ws.length = k) : IsWords w (.slice ao k c) ws := by
 have hh := h
 rcases hh.2 with ⟨h0, h1⟩ | ⟨g, cap, cur, hv, _, _, h1, h2, _⟩
 ·refine .inl ⟨h0, ?_⟩
  simp only [Value.slice.injEq] at h0
  exact List.length_eq_zero_iff.1 (by omega)
 ·simp only [Value.slice.injEq] at hv
  obtain ⟨rfl, _, rfl⟩ := hv
  subst hl
  refine .inr ⟨g, c, rfl, h1, h2, fun i x hx => ?_⟩
  have hi : i < ws.length := (List.getElem?_eq_some_iff.1 hx).1
  obtain ⟨k1, k2⟩ := flatW_get ws i x hx
  exact ⟨(h.cellAt (i * 2) (by omega)).trans k1, (h.cellAt (i * 2 + 1) (by omega)).trans k2⟩
structure LinesO (w : World) (base : Nat) (e : TypeId) (v : Value) (LL : List (List Wd)) (vs : List Value) : Prop where
 own : w.ownsRow base e 1 v LL.length vs
 row : ∀ (j : Nat) u L, vs[j]? = some u → LL[j]? = some L → IsWords w u L ∧ ∃ b, u.ownBlock = some b ∧ v.ownBlock ≠ some b ∧ b < w.heap.size ∧ base ≤ b
theorem LinesO.nil (w : World) (base : Nat) (e : TypeId) : LinesO w base e (.slice none 0 0) [] [] := ⟨World.ownsRow_nil _ _ _ _, fun j u L h => by simp at h⟩
theorem lines_keep {w w' : World} {base : Nat} {e : TypeId} {v : Value} {LL : List (List Wd)} {vs : List Value} (h : LinesO w base e v LL vs) {row : Option Nat} (q : w.grownBy w' row)
  (hv : ∀ b, row = some b → v.ownBlock ≠ some b) (hs : ∀ b, row = some b → ∀ u ∈ vs, u.ownBlock ≠ some b) : LinesO w' base e v LL vs := by
 refine ⟨h.own.kept (row := row) q ?_, fun j u L hu hL => ?_⟩
 ·cases hb : v.ownBlock with
  | none => exact .inl rfl
  | some b => exact .inr fun e => hv b e.symm hb
 ·obtain ⟨h1, b, h2, h3, h4, h5⟩ := h.row j u L hu hL
  exact ⟨h1.block fun b' hb' hlt => q.block b' hlt (fun e => hs b' e.symm u (List.mem_of_getElem? hu) hb'), b, h2, h3, Nat.lt_of_lt_of_le h4 q.size, h5⟩
theorem B.none {w w' : World} (q : B w w') : w.grownBy w' none := ⟨q.below.os, q.below.tape, q.below.output, q.below.size, fun k hk _ => q.below.block k hk⟩
theorem row_keep {w w' : World} {base : Nat} {e : TypeId} {size n : Nat} {v : Value} {xs : List Value} (h : w.ownsRow base e size v n xs) (q : B w w') : w'.ownsRow base e size v n xs :=
 h.kept (row := none) q.none (by cases v.ownBlock <;> simp)
theorem addz (b j : Nat) : (⟨b, 0, none⟩ : Addr).add j = ⟨b, j, none⟩ := by unfold Addr.add; split <;> simp_all
theorem newest {w : World} {cs : Array Value} {t : TypeId} {H : Nat} (hH : w.heap.size = H) : ∀ j u, cs.toList[j]? = some u → (w.alloc (.cells cs t)).cell? ((⟨H, 0, none⟩ : Addr).add j) = some u := by
 intro j u h
 rw [addz]
 subst hH
 rw [World.cell?_alloc_new]
 simpa using h
theorem info_of {P : Program} {t : TypeId} {z : Value} {s b : Nat} (h : (P.info? t).map (fun i => (i.zero, i.size, i.bytes)) = some (some z, s, b)) : ∃ i, P.info? t = some i ∧ i.zero = some z ∧ i.size = s ∧ i.bytes = b := by
 cases hi : P.info? t with
 | none => rw [hi] at h; cases h
 | some i => rw [hi] at h; simp at h; exact ⟨i, rfl, h.1, h.2.1, h.2.2⟩
theorem LinesO.keep {w w' : World} {base : Nat} {e : TypeId} {v : Value} {LL : List (List Wd)} {vs : List Value} (h : LinesO w base e v LL vs) (q : B w w') : LinesO w' base e v LL vs :=
 lines_keep h q.none (fun b hb => by cases hb) (fun b hb => by cases hb)
theorem LinesO.len {w : World} {base : Nat} {e : TypeId} {v : Value} {LL : List (List Wd)} {vs : List Value} (h : LinesO w base e v LL vs) : vs.length = LL.length := by
 have := h.own.1
 omega
theorem lines_more {w1 w2 : World} {base : Nat} {e : TypeId} {v : Value} {LL : List (List Wd)} {vs : List Value} {g cap : Nat} {u : Value} {L : List Wd} (h : LinesO w1 base e v LL vs)
  (own : w2.ownsRow base e 1 (.slice (some ⟨g, 0, none⟩) (LL.length + 1) cap) (LL.length + 1) (vs ++ [u])) (q : w1.grownBy w2 v.ownBlock) (hat : v.ownBlock = some g ∨ g = w1.heap.size)
  (hu : IsWords w1 u L) {b : Nat} (hb : u.ownBlock = some b) (hvb : v.ownBlock ≠ some b) (hlt : b < w1.heap.size) (hbase : base ≤ b) :
  LinesO w2 base e (.slice (some ⟨g, 0, none⟩) (LL ++ [L]).length cap) (LL ++ [L]) (vs ++ [u]) := by
 have hlen := h.len
 have key : ∀ (u : Value) (L : List Wd), IsWords w1 u L → (∃ b, u.ownBlock = some b ∧ v.ownBlock ≠ some b ∧ b < w1.heap.size ∧ base ≤ b) → IsWords w2 u L ∧ ∃ b, u.ownBlock = some b ∧ (Value.slice (some ⟨g, 0, none⟩) (LL ++ [L]).length cap).ownBlock ≠ some b ∧ b < w2.heap.size ∧ base ≤ b := by
  intro u L hu ⟨b, hb, hvb, hlt, hba⟩
  refine ⟨hu.block fun b' hb' hlt' => q.block b' hlt' (fun e => ?_), b, hb, fun e => ?_, Nat.lt_of_lt_of_le hlt q.size, hba⟩
  ·rw [hb] at hb'
   cases hb'
   exact hvb e.symm
  ·have hg : g = b := Option.some.inj e
   rcases hat with hat | hat
   ·exact hvb (hat.trans (congrArg some hg))
   ·omega
 have elen : (LL ++ [L]).length = LL.length + 1 := by simp
 refine ⟨elen ▸ own, fun j x M hx hM => ?_⟩
 rcases Nat.lt_or_ge j LL.length with hj | hj
 ·rw [List.getElem?_append_left (by omega)] at hx hM
  obtain ⟨h1, h2⟩ := h.row j x M hx hM
  have := key x M h1 h2
  exact this
 ·have hj' : j = LL.length := by
   have := (List.getElem?_eq_some_iff.1 hM).1
   simp at this
   omega
  subst hj'
  rw [List.getElem?_append_right (by omega)] at hx hM
  simp only [Nat.sub_self, List.getElem?_cons_zero, Option.some.injEq] at hM
  rw [show LL.length - vs.length = 0 by omega] at hx
  simp only [List.getElem?_cons_zero, Option.some.injEq] at hx
  subst hx hM
  exact key _ _ hu ⟨b, hb, hvb, hlt, hbase⟩
def IsLines (w : World) (v : Value) (LL : List (List Wd)) : Prop :=
 (v = .slice none 0 0 ∧ LL = []) ∨
 ∃ g cap, v = .slice (some ⟨g, 0, none⟩) LL.length cap ∧ LL.length ≤ cap ∧ cap ≤ maxLen ∧ ∀ i L, LL[i]? = some L → ∃ u, w.cell? ⟨g, i, none⟩ = some u ∧ IsWords w u L
theorem IsLines.keep {w w' : World} {v : Value} {LL : List (List Wd)} (h : IsLines w v LL) (q : B w w') : IsLines w' v LL := by
 rcases h with h | ⟨g, cap, h1, h2, h3, h4⟩
 ·exact .inl h
 ·exact .inr ⟨g, cap, h1, h2, h3, fun i L hL => by obtain ⟨u, k1, k2⟩ := h4 i L hL; exact ⟨u, q.keep k1, k2.keep q⟩⟩
theorem IsLines.form {w : World} {v : Value} {LL : List (List Wd)} (h : IsLines w v LL) : ∃ ao cap, v = .slice ao LL.length cap := by
 rcases h with ⟨rfl, rfl⟩ | ⟨g, cap, rfl, _⟩ <;> exact ⟨_, _, rfl⟩
theorem LinesO.is {w : World} {base : Nat} {e : TypeId} {v : Value} {LL : List (List Wd)} {vs : List Value} (h : LinesO w base e v LL vs) : IsLines w v LL := by
 have hown := h.own
 rcases hown.2 with ⟨h0, h1⟩ | ⟨g, cap, cur, rfl, _, _, h1, h2, _⟩
 ·exact .inl ⟨h0, List.length_eq_zero_iff.1 (by omega)⟩
 ·refine .inr ⟨g, cap, rfl, h1, h2, fun i L hL => ?_⟩
  have hi : i < LL.length := (List.getElem?_eq_some_iff.1 hL).1
  have hlen := h.len
  have hu : vs[i]? = some vs[i] := List.getElem?_eq_getElem (by omega)
  exact ⟨_, (hown.cellAt i (by omega)).trans hu, (h.row i _ L hu hL).1⟩
end Go.Proofs.YtalnfojaccfcjaaGreatDoor
namespace Go.Proofs.YtalnfojaccfcjaaGreatDoor
open Go.RowKit
abbrev Wr := Rec
structure Fl where
 n : ByteArray
 r : Int
 c : Int
 v : Int
structure Dk where
 ws : List Wr
 ts : List Wr
 fs : List Fl
def dk0 : Dk := ⟨[], [], []⟩
def namedW (ws : List Wr) (n : ByteArray) : Bool := ws.any fun w => w.n.toList == n.toList
def filledW (fs : List Fl) (n : ByteArray) (r c : Int) : Bool := fs.any fun f => (f.n.toList == n.toList) && decide (f.r = r) && decide (f.c = c)
def indexW : List Wr → Int → ByteArray → Int → Int → Option Int
 | [], _, _, _, _ => none
 | w :: ws, k, n, r, c => if w.n.toList == n.toList then (if 0 ≤ r ∧ r < w.x ∧ 0 ≤ c ∧ c < w.y then some (k + (r * w.y + c)) else none) else indexW ws (k + w.x * w.y) n r c
def hasW (ws : List Wr) (n : ByteArray) (r c : Int) : Bool := (indexW ws 0 n r c).isSome
def wellL (l : List UInt8) : Option (List UInt8 × Nat × Nat) :=
 let n := l.takeWhile fun c => decide (c.toNat ≠ 46)
 match l.drop (n.length + 1) with
 | [] => none
 | r :: ds => if nameS (strB n) = true ∧ 65 ≤ r.toNat ∧ r.toNat ≤ 72 ∧ numOk (strB ds) = true ∧ 1 ≤ numV (strB ds) ∧ numV (strB ds) ≤ 12 then some (n, r.toNat - 65, numV (strB ds) - 1) else none
def kRound : List UInt8 := [114, 111, 117, 110, 100]
def kBox : List UInt8 := [98, 111, 120]
def kWare : List UInt8 := [119, 97, 114, 101]
def kTip : List UInt8 := [116, 105, 112]
def kFill : List UInt8 := [102, 105, 108, 108]
def numsW : List Wd → Except Nat (List Nat)
 | [] => .ok []
 | x :: l => if numOk (strB x.2) then (match numsW l with | .ok ns => .ok (numV (strB x.2) :: ns) | .error p => .error p) else .error x.1
def secW (l : List Wd) : Except (Nat × Nat) Sec :=
 match l with
 | [] => .error (0, 24)
 | k :: l =>
  if l.length ≠ (if k.2 = kBox then 5 else 3) then .error (k.1, 24)
  else match numsW l with
   | .error p => .error (p, 20)
   | .ok [h, a0, a1] => .ok ⟨true, h, a0, 0, a1, 0⟩
   | .ok [h, a0, b0, a1, b1] => .ok ⟨false, h, a0, b0, a1, b1⟩
   | .ok _ => .error (k.1, 24)
def threeW (m0 m1 m2 : Nat) (a b c : Wd) : Except (Nat × Nat) (Nat × Nat × Nat) :=
 if numOk (strB a.2) = false ∨ m0 < numV (strB a.2) ∨ numV (strB a.2) < 1 then .error (a.1, 20)
 else if numOk (strB b.2) = false ∨ m1 < numV (strB b.2) ∨ numV (strB b.2) < 1 then .error (b.1, 20)
 else if numOk (strB c.2) = false ∨ m2 < numV (strB c.2) then .error (c.1, 20)
 else .ok (numV (strB a.2), numV (strB b.2), numV (strB c.2))
def recW (had : List Wr) (most m0 m1 m2 : Nat) (l : List Wd) : Except (Nat × Nat) Wr :=
 match l with
 | [k, n, a, b, c] =>
  if most ≤ had.length then .error (k.1, 27)
  else if nameS (strB n.2) = false ∨ namedW had (strB n.2) = true then .error (n.1, 25)
  else match threeW m0 m1 m2 a b c with
   | .error e => .error e
   | .ok (x, y, z) => .ok ⟨strB n.2, x, y, z, []⟩
 | k :: _ => .error (k.1, 24)
 | [] => .error (0, 24)
def fillW (d : Dk) (l : List Wd) : Except (Nat × Nat) Fl :=
 match l with
 | [_, p, v] =>
  match wellL p.2 with
  | none => .error (p.1, 26)
  | some (n, r, c) =>
   if hasW d.ws (strB n) r c = false ∨ filledW d.fs (strB n) r c = true then .error (p.1, 26)
   else if numOk (strB v.2) = false ∨ 20000000 < numV (strB v.2) then .error (v.1, 20)
   else .ok ⟨strB n, r, c, numV (strB v.2)⟩
 | k :: _ => .error (k.1, 24)
 | [] => .error (0, 24)
def moreR (w : Wr) (s : Sec) : Wr := { w with l := w.l ++ [s] }
def moreW : List Wr → Sec → List Wr
 | [], _ => []
 | [w], s => [moreR w s]
 | w :: ws, s => w :: moreW ws s
def lastL : List Wr → List Sec
 | [] => []
 | [w] => w.l
 | _ :: ws => lastL ws
def wholeD (d : Dk) (o : Nat) : Bool := if o = 1 then rightS (lastL d.ws) else if o = 2 then rightS (lastL d.ts) else true
def Dk.add (d : Dk) (o : Nat) (s : Sec) : Dk := if o = 1 then { d with ws := moreW d.ws s } else if o = 2 then { d with ts := moreW d.ts s } else d
def parseD : List (List Wd) → Dk → Nat → Nat → Dk × List (List Wd) × Nat × Nat
 | [], d, o, f => if wholeD d o then (d, [], 0, 0) else (dk0, [], f, 23)
 | [] :: L, d, o, f => parseD L d o f
 | (k :: x) :: L, d, o, f =>
  if k.2 = kRound ∨ k.2 = kBox then
   if o = 0 then (dk0, [], k.1, 24)
   else match secW (k :: x) with
    | .error e => (dk0, [], e.1, e.2)
    | .ok s => parseD L (d.add o s) o f
  else if wholeD d o = false then (dk0, [], f, 23)
  else if k.2 = kWare then
   match recW d.ws 8 8 12 1000000 (k :: x) with
   | .error e => (dk0, [], e.1, e.2)
   | .ok w => parseD L { d with ws := d.ws ++ [w] } 1 k.1
  else if k.2 = kTip then
   match recW d.ts 4 20000000 60000 10000 (k :: x) with
   | .error e => (dk0, [], e.1, e.2)
   | .ok t => parseD L { d with ts := d.ts ++ [t] } 2 k.1
  else if k.2 = kFill then
   match fillW d (k :: x) with
   | .error e => (dk0, [], e.1, e.2)
   | .ok v => parseD L { d with fs := d.fs ++ [v] } 0 k.1
  else (d, (k :: x) :: L, 0, 0)
def wareOk (w : Wr) : Bool := nameS w.n && inB w.x 1 8 && inB w.y 1 12 && inB w.z 0 1000000 && rightS w.l
def tipOk (t : Wr) : Bool := nameS t.n && rightS t.l && inB t.x 1 20000000 && inB t.y 1 60000 && inB t.z 0 10000
def apartW (ok : Wr → Bool) (ws : List Wr) : Bool := (List.range ws.length).all fun i => match ws[i]? with
 | some w => ok w && !namedW (ws.take i) w.n
 | none => true
def fillsOk (ws : List Wr) (fs : List Fl) : Bool := (List.range fs.length).all fun i => match fs[i]? with
 | some f => hasW ws f.n f.r f.c && inB f.v 0 20000000 && !filledW (fs.take i) f.n f.r f.c
 | none => true
def rightD (d : Dk) : Bool := decide (d.ws.length ≤ 8) && decide (d.ts.length ≤ 4) && apartW wareOk d.ws && apartW tipOk d.ts && fillsOk d.ws d.fs
def decI (x : Int) : List UInt8 := Lib.decDigits x.toNat
def wellT (n : ByteArray) (r c : Int) : List UInt8 := if nameS n = true ∧ 0 ≤ r ∧ r < 8 ∧ 0 ≤ c ∧ c < 12 then n.data.toList ++ [46, UInt8.ofNat (65 + r.toNat)] ++ decI (c + 1) else []
def secL (s : Sec) : List (List UInt8) := if s.r then [kRound, decI s.h, decI s.a0, decI s.a1] else [kBox, decI s.h, decI s.a0, decI s.b0, decI s.a1, decI s.b1]
def recL (k : List UInt8) (w : Wr) : List (List (List UInt8)) := [k, w.n.data.toList, decI w.x, decI w.y, decI w.z] :: w.l.map secL
def fillL (f : Fl) : List (List UInt8) := [kFill, wellT f.n f.r f.c, decI f.v]
def deckL (d : Dk) : List (List (List UInt8)) := d.ws.flatMap (recL kWare) ++ d.ts.flatMap (recL kTip) ++ d.fs.map fillL
def lineT : List (List UInt8) → List UInt8
 | [] => [10]
 | [w] => w ++ [10]
 | w :: ws => w ++ 32 :: lineT ws
def textD (d : Dk) : List UInt8 := if rightD d then (deckL d).flatMap lineT else []
end Go.Proofs.YtalnfojaccfcjaaGreatDoor
namespace Go.Proofs.YtalnfojaccfcjaaGreatDoor
open Go.RowKit
structure FlAt (w : World) (p : Addr) (f : Fl) : Prop where
 n : w.cell? p = some (.string f.n)
 r : w.cell? ⟨p.block, p.off + 1, none⟩ = some (.int .i64 f.r)
 c : w.cell? ⟨p.block, p.off + 2, none⟩ = some (.int .i64 f.c)
 v : w.cell? ⟨p.block, p.off + 3, none⟩ = some (.int .i64 f.v)
theorem FlAt.keepB {w w' : World} {p : Addr} {f : Fl} (h : FlAt w p f) (q : B w w') : FlAt w' p f := ⟨q.keep h.n, q.keep h.r, q.keep h.c, q.keep h.v⟩
def IsFls (w : World) (v : Value) (L : List Fl) : Prop :=
 (v = .slice none 0 0 ∧ L = []) ∨
 ∃ (a : Addr) (cap : Nat), v = .slice (some a) L.length cap ∧ L.length ≤ cap ∧ cap ≤ maxLen ∧ ∀ i f, L[i]? = some f → FlAt w (a.add (i * 4)) f
theorem IsFls.keepB {w w' : World} {v : Value} {L : List Fl} (h : IsFls w v L) (q : B w w') : IsFls w' v L := by
 rcases h with h | ⟨a, cap, h1, h2, h3, h4⟩
 ·exact .inl h
 ·exact .inr ⟨a, cap, h1, h2, h3, fun i f hf => (h4 i f hf).keepB q⟩
theorem IsFls.form {w : World} {v : Value} {L : List Fl} (h : IsFls w v L) : ∃ ao cap, v = .slice ao L.length cap := by
 rcases h with ⟨rfl, rfl⟩ | ⟨a, cap, rfl, _⟩
 ·exact ⟨_, _, rfl⟩
 ·exact ⟨_, _, rfl⟩
theorem IsFls.at_ {w : World} {v : Value} {L : List Fl} (h : IsFls w v L) {i : Nat} (hi : i < L.length) : ∃ (a : Addr) (cap : Nat), v = .slice (some a) L.length cap ∧ L.length ≤ cap ∧ cap ≤ maxLen ∧ FlAt w (a.add (i * 4)) L[i] := by
 rcases h with ⟨_, rfl⟩ | ⟨a, cap, h1, h2, h3, h4⟩
 ·simp at hi
 ·exact ⟨a, cap, h1, h2, h3, h4 i _ (List.getElem?_eq_getElem hi)⟩
structure IsDk (w : World) (wv tv fv : Value) (d : Dk) : Prop where
 ws : IsRecs w wv d.ws
 ts : IsRecs w tv d.ts
 fs : IsFls w fv d.fs
theorem IsDk.keepB {w w' : World} {wv tv fv : Value} {d : Dk} (h : IsDk w wv tv fv d) (q : B w w') : IsDk w' wv tv fv d := ⟨h.ws.keepB q, h.ts.keepB q, h.fs.keepB q⟩
theorem len_max {n : Nat} {cap : Nat} (h : n ≤ cap) (h2 : cap ≤ maxLen) : n ≤ 9223372036854775807 := by unfold maxLen at h2; omega
theorem IsRecs.len {w : World} {v : Value} {L : List Rec} (h : IsRecs w v L) : L.length ≤ 9223372036854775807 := by
 rcases h with ⟨_, rfl⟩ | ⟨a, cap, _, h2, h3, _⟩
 ·simp
 ·exact len_max h2 h3
theorem IsFls.len {w : World} {v : Value} {L : List Fl} (h : IsFls w v L) : L.length ≤ 9223372036854775807 := by
 rcases h with ⟨_, rfl⟩ | ⟨a, cap, _, h2, h3, _⟩
 ·simp
 ·exact len_max h2 h3
theorem secs_form {w : World} {v : Value} {l : List Sec} (h : IsSecs w v l) : ∃ ao cap, v = .slice ao l.length cap := by
 rcases h with ⟨rfl, rfl⟩ | ⟨a, cap, rfl, _⟩
 ·exact ⟨_, _, rfl⟩
 ·exact ⟨_, _, rfl⟩
end Go.Proofs.YtalnfojaccfcjaaGreatDoor
namespace Go.Proofs.YtalnfojaccfcjaaGreatDoor
open Go.RowKit
set_option linter.unusedVariables false
structure Wp where
 n : ByteArray
 r : Int
 c : Int
structure Sp where
 k : Int
 n : ByteArray
 w : List Wp
 v : Int
 m : Int
def Wp.t (p : Wp) : List UInt8 := wellT p.n p.r p.c
def wellsOk (l : List Wp) : Bool := l.all fun p => !p.t.isEmpty
def stepK (s : Sp) : Bool :=
 if s.k = 0 then nameS s.n && decide (s.w.length = 0) && decide (s.v = 0) && decide (s.m = 0)
 else if s.k = 1 then (s.n.toList == []) && decide (s.w.length = 0) && decide (s.v = 0) && (decide (s.m = 0) || decide (s.m = 1))
 else if s.k = 5 then (s.n.toList == []) && decide (s.w.length = 1) && inB s.v 1 20000000 && inB s.m 1 20
 else if s.k = 2 ∨ s.k = 3 ∨ s.k = 4 ∨ s.k = 6 then (s.n.toList == []) && decide (s.m = 0) && inB s.v 1 20000000 && decide (2 ≤ s.w.length) && decide (s.w.length ≤ 96) && (decide (s.k ≠ 2) || decide (s.w.length = 2))
 else false
def stepOk (s : Sp) : Bool := wellsOk s.w && stepK s
def stepsOk (l : List Sp) : Bool := decide (l.length ≤ 200) && l.all stepOk
def kUse : List UInt8 := [117, 115, 101]
def kFresh : List UInt8 := [102, 114, 101, 115, 104]
def kTransfer : List UInt8 := [116, 114, 97, 110, 115, 102, 101, 114]
def kSpread : List UInt8 := [115, 112, 114, 101, 97, 100]
def kGather : List UInt8 := [103, 97, 116, 104, 101, 114]
def kMix : List UInt8 := [109, 105, 120]
def kDilute : List UInt8 := [100, 105, 108, 117, 116, 101]
def kOnce : List UInt8 := [111, 110, 99, 101]
def kEach : List UInt8 := [101, 97, 99, 104]
def kindW (k : Int) : List UInt8 := if k = 0 then kUse else if k = 1 then kFresh else if k = 2 then kTransfer else if k = 3 then kSpread else if k = 4 then kGather else if k = 5 then kMix else kDilute
def stepW (s : Sp) : List (List UInt8) :=
 if s.k = 0 then [s.n.data.toList]
 else if s.k = 1 then [if s.m = 0 then kOnce else kEach]
 else if s.k = 6 then decI s.v :: s.w.map Wp.t
 else if s.k = 2 then s.w.map Wp.t ++ [decI s.v]
 else if s.k = 5 then s.w.map Wp.t ++ [decI s.v, decI s.m]
 else (s.w.take 1).map Wp.t ++ [decI s.v] ++ (s.w.drop 1).map Wp.t
def stepL (s : Sp) : List (List UInt8) := kindW s.k :: stepW s
def stepsT (l : List Sp) : List UInt8 := if stepsOk l then l.flatMap fun s => lineT (stepL s) else []
structure WpAt (w : World) (p : Addr) (f : Wp) : Prop where
 n : w.cell? p = some (.string f.n)
 r : w.cell? ⟨p.block, p.off + 1, none⟩ = some (.int .i64 f.r)
 c : w.cell? ⟨p.block, p.off + 2, none⟩ = some (.int .i64 f.c)
theorem WpAt.keepB {w w' : World} {p : Addr} {f : Wp} (h : WpAt w p f) (q : B w w') : WpAt w' p f := ⟨q.keep h.n, q.keep h.r, q.keep h.c⟩
def IsWps (w : World) (v : Value) (L : List Wp) : Prop :=
 (v = .slice none 0 0 ∧ L = []) ∨
 ∃ (a : Addr) (cap : Nat), v = .slice (some a) L.length cap ∧ L.length ≤ cap ∧ cap ≤ maxLen ∧ ∀ i f, L[i]? = some f → WpAt w (a.add (i * 3)) f
theorem IsWps.keepB {w w' : World} {v : Value} {L : List Wp} (h : IsWps w v L) (q : B w w') : IsWps w' v L := by
 rcases h with h | ⟨a, cap, h1, h2, h3, h4⟩
 ·exact .inl h
 ·exact .inr ⟨a, cap, h1, h2, h3, fun i f hf => (h4 i f hf).keepB q⟩
theorem IsWps.form {w : World} {v : Value} {L : List Wp} (h : IsWps w v L) : ∃ ao cap, v = .slice ao L.length cap := by
 rcases h with ⟨rfl, rfl⟩ | ⟨a, cap, rfl, _⟩
 ·exact ⟨_, _, rfl⟩
 ·exact ⟨_, _, rfl⟩
theorem IsWps.at_ {w : World} {v : Value} {L : List Wp} (h : IsWps w v L) {i : Nat} (hi : i < L.length) : ∃ (a : Addr) (cap : Nat), v = .slice (some a) L.length cap ∧ L.length ≤ cap ∧ cap ≤ maxLen ∧ WpAt w (a.add (i * 3)) L[i] := by
 rcases h with ⟨_, rfl⟩ | ⟨a, cap, h1, h2, h3, h4⟩
 ·simp at hi
 ·exact ⟨a, cap, h1, h2, h3, h4 i _ (List.getElem?_eq_getElem hi)⟩
theorem IsWps.len {w : World} {v : Value} {L : List Wp} (h : IsWps w v L) : L.length ≤ 9223372036854775807 := by
 rcases h with ⟨_, rfl⟩ | ⟨a, cap, _, h2, h3, _⟩
 ·simp
 ·exact len_max h2 h3
structure SpAt (w : World) (p : Addr) (s : Sp) : Prop where
 k : w.cell? p = some (.int .i64 s.k)
 n : w.cell? ⟨p.block, p.off + 1, none⟩ = some (.string s.n)
 ws : ∃ v, w.cell? ⟨p.block, p.off + 2, none⟩ = some v ∧ IsWps w v s.w
 v : w.cell? ⟨p.block, p.off + 3, none⟩ = some (.int .i64 s.v)
 m : w.cell? ⟨p.block, p.off + 4, none⟩ = some (.int .i64 s.m)
theorem SpAt.keepB {w w' : World} {p : Addr} {s : Sp} (h : SpAt w p s) (q : B w w') : SpAt w' p s :=
 ⟨q.keep h.k, q.keep h.n, let ⟨v, h1, h2⟩ := h.ws; ⟨v, q.keep h1, h2.keepB q⟩, q.keep h.v, q.keep h.m⟩
def IsSps (w : World) (v : Value) (L : List Sp) : Prop :=
 (v = .slice none 0 0 ∧ L = []) ∨
 ∃ (a : Addr) (cap : Nat), v = .slice (some a) L.length cap ∧ L.length ≤ cap ∧ cap ≤ maxLen ∧ ∀ i f, L[i]? = some f → SpAt w (a.add (i * 5)) f
theorem IsSps.keepB {w w' : World} {v : Value} {L : List Sp} (h : IsSps w v L) (q : B w w') : IsSps w' v L := by
 rcases h with h | ⟨a, cap, h1, h2, h3, h4⟩
 ·exact .inl h
 ·exact .inr ⟨a, cap, h1, h2, h3, fun i f hf => (h4 i f hf).keepB q⟩
theorem IsSps.form {w : World} {v : Value} {L : List Sp} (h : IsSps w v L) : ∃ ao cap, v = .slice ao L.length cap := by
 rcases h with ⟨rfl, rfl⟩ | ⟨a, cap, rfl, _⟩
 ·exact ⟨_, _, rfl⟩
 ·exact ⟨_, _, rfl⟩
theorem IsSps.at_ {w : World} {v : Value} {L : List Sp} (h : IsSps w v L) {i : Nat} (hi : i < L.length) : ∃ (a : Addr) (cap : Nat), v = .slice (some a) L.length cap ∧ L.length ≤ cap ∧ cap ≤ maxLen ∧ SpAt w (a.add (i * 5)) L[i] := by
 rcases h with ⟨_, rfl⟩ | ⟨a, cap, h1, h2, h3, h4⟩
 ·simp at hi
 ·exact ⟨a, cap, h1, h2, h3, h4 i _ (List.getElem?_eq_getElem hi)⟩
theorem IsSps.len {w : World} {v : Value} {L : List Sp} (h : IsSps w v L) : L.length ≤ 9223372036854775807 := by
 rcases h with ⟨_, rfl⟩ | ⟨a, cap, _, h2, h3, _⟩
 ·simp
 ·exact len_max h2 h3
end Go.Proofs.YtalnfojaccfcjaaGreatDoor
namespace Go.Proofs.YtalnfojaccfcjaaGreatDoor
open Go.RowKit
set_option linter.unusedVariables false
def Sp.cells (s : Sp) (u : Value) : List Value := [.int .i64 s.k, .string s.n, u, .int .i64 s.v, .int .i64 s.m]
def flatSp : List Sp → List Value → List Value
 | s :: SS, u :: vs => s.cells u ++ flatSp SS vs
 | _, _ => []
theorem flatSp_snoc : ∀ (SS : List Sp) (vs : List Value) (s : Sp) (u : Value), vs.length = SS.length → flatSp (SS ++ [s]) (vs ++ [u]) = flatSp SS vs ++ s.cells u
 | [], [], s, u, _ => by simp [flatSp]
 | [], _ :: _, s, u, h => by simp at h
 | _ :: _, [], s, u, h => by simp at h
 | t :: SS, v :: vs, s, u, h => by
  show t.cells v ++ flatSp (SS ++ [s]) (vs ++ [u]) = _
  rw [flatSp_snoc SS vs s u (by simpa using h), ← List.append_assoc]
  rfl
theorem flatSp_get : ∀ (SS : List Sp) (vs : List Value) (i k : Nat) (s : Sp) (u : Value), vs.length = SS.length → SS[i]? = some s → vs[i]? = some u → k < 5 → (flatSp SS vs)[i * 5 + k]? = (s.cells u)[k]?
 | [], _, i, k, s, u, _, h, _, _ => by simp at h
 | _ :: _, [], i, k, s, u, h, _, _, _ => by simp at h
 | t :: SS, v :: vs, 0, k, s, u, h, h1, h2, hk => by
  simp only [List.getElem?_cons_zero, Option.some.injEq] at h1 h2
  subst h1 h2
  show (t.cells v ++ flatSp SS vs)[0 * 5 + k]? = _
  rw [List.getElem?_append_left (by show 0 * 5 + k < 5; omega), Nat.zero_mul, Nat.zero_add]
 | t :: SS, v :: vs, i + 1, k, s, u, h, h1, h2, hk => by
  simp only [List.getElem?_cons_succ] at h1 h2
  show (t.cells v ++ flatSp SS vs)[(i + 1) * 5 + k]? = _
  rw [List.getElem?_append_right (by show 5 ≤ (i + 1) * 5 + k; omega), show (i + 1) * 5 + k - (t.cells v).length = i * 5 + k by show (i + 1) * 5 + k - 5 = _; omega]
  exact flatSp_get SS vs i k s u (by simpa using h) h1 h2 hk
theorem IsWps.block {w w' : World} {v : Value} {L : List Wp} (h : IsWps w v L) (hb : ∀ b, v.ownBlock = some b → b < w.heap.size → w'.heap[b]? = w.heap[b]?) : IsWps w' v L := by
 rcases h with h | ⟨a, cap, rfl, h2, h3, h4⟩
 ·exact .inl h
 ·refine .inr ⟨a, cap, rfl, h2, h3, fun i f hf => ?_⟩
  obtain ⟨k1, k2, k3⟩ := h4 i f hf
  have hlt := World.block_lt_of_cell? w _ k1
  have hab : (a.add (i * 3)).block = a.block := by unfold Addr.add; split <;> rfl
  rw [hab] at hlt
  have e := hb a.block rfl hlt
  have e' : w'.heap[(a.add (i * 3)).block]? = w.heap[(a.add (i * 3)).block]? := by rw [hab]; exact e
  exact ⟨(World.cell?_of_block (a := a.add (i * 3)) e').trans k1, (World.cell?_of_block (a := ⟨(a.add (i * 3)).block, (a.add (i * 3)).off + 1, none⟩) e').trans k2, (World.cell?_of_block (a := ⟨(a.add (i * 3)).block, (a.add (i * 3)).off + 2, none⟩) e').trans k3⟩
structure StepsO (w : World) (base : Nat) (e : TypeId) (v : Value) (SS : List Sp) (vs : List Value) : Prop where
 len : vs.length = SS.length
 own : w.ownsRow base e 5 v SS.length (flatSp SS vs)
 row : ∀ (j : Nat) u s, vs[j]? = some u → SS[j]? = some s → IsWps w u s.w ∧ ∀ b, u.ownBlock = some b → v.ownBlock ≠ some b ∧ b < w.heap.size
theorem StepsO.keep {w w' : World} {base : Nat} {e : TypeId} {v : Value} {SS : List Sp} {vs : List Value} (h : StepsO w base e v SS vs) (q : B w w') : StepsO w' base e v SS vs :=
 ⟨h.len, row_keep h.own q, fun j u s hu hs => by
  obtain ⟨h1, h2⟩ := h.row j u s hu hs
  exact ⟨h1.keepB q, fun b hb => ⟨(h2 b hb).1, Nat.lt_of_lt_of_le (h2 b hb).2 q.below.size⟩⟩⟩
theorem steps_more {w1 w2 : World} {base : Nat} {e : TypeId} {v : Value} {SS : List Sp} {vs : List Value} {g cap : Nat} {u : Value} {s : Sp} (h : StepsO w1 base e v SS vs)
  (own : w2.ownsRow base e 5 (.slice (some ⟨g, 0, none⟩) (SS.length + 1) cap) (SS.length + 1) (flatSp SS vs ++ s.cells u)) (q : w1.grownBy w2 v.ownBlock) (hat : v.ownBlock = some g ∨ g = w1.heap.size)
  (hu : IsWps w1 u s.w) (hb : ∀ b, u.ownBlock = some b → v.ownBlock ≠ some b ∧ b < w1.heap.size) :
  StepsO w2 base e (.slice (some ⟨g, 0, none⟩) (SS ++ [s]).length cap) (SS ++ [s]) (vs ++ [u]) := by
 have hlen := h.len
 have key : ∀ (u : Value) (L : List Wp), IsWps w1 u L → (∀ b, u.ownBlock = some b → v.ownBlock ≠ some b ∧ b < w1.heap.size) → IsWps w2 u L ∧ ∀ b, u.ownBlock = some b → (Value.slice (some ⟨g, 0, none⟩) (SS ++ [s]).length cap).ownBlock ≠ some b ∧ b < w2.heap.size := by
  intro u L hu hh
  refine ⟨hu.block fun b' hb' hlt' => q.block b' hlt' (fun e => (hh b' hb').1 e.symm), fun b hb => ⟨fun e => ?_, Nat.lt_of_lt_of_le (hh b hb).2 q.size⟩⟩
  have hg : g = b := Option.some.inj e
  rcases hat with hat | hat
  ·exact (hh b hb).1 (hat.trans (congrArg some hg))
  ·have := (hh b hb).2
   omega
 have elen : (SS ++ [s]).length = SS.length + 1 := by simp
 refine ⟨by simp [hlen], ?_, fun j x t hx ht => ?_⟩
 ·rw [flatSp_snoc _ _ _ _ hlen, elen]
  exact own
 rcases Nat.lt_or_ge j SS.length with hj | hj
 ·rw [List.getElem?_append_left (by omega)] at hx ht
  obtain ⟨h1, h2⟩ := h.row j x t hx ht
  exact key x _ h1 h2
 ·have hj' : j = SS.length := by
   have := (List.getElem?_eq_some_iff.1 ht).1
   simp at this
   omega
  subst hj'
  rw [List.getElem?_append_right (by omega)] at hx ht
  simp only [Nat.sub_self, List.getElem?_cons_zero, Option.some.injEq] at ht
  rw [show SS.length - vs.length = 0 by omega] at hx
  simp only [List.getElem?_cons_zero, Option.some.injEq] at hx
  subst hx ht
  exact key _ _ hu hb
theorem StepsO.is {w : World} {base : Nat} {e : TypeId} {v : Value} {SS : List Sp} {vs : List Value} (h : StepsO w base e v SS vs) : IsSps w v SS := by
 have hown := h.own
 rcases hown.2 with ⟨h0, h1⟩ | ⟨g, cap, cur, rfl, _, _, h1, h2, _⟩
 ·exact .inl ⟨h0, List.length_eq_zero_iff.1 (by omega)⟩
 ·refine .inr ⟨⟨g, 0, none⟩, cap, rfl, h1, h2, fun i s hs => ?_⟩
  have hi : i < SS.length := (List.getElem?_eq_some_iff.1 hs).1
  obtain ⟨u, hu⟩ : ∃ u, vs[i]? = some u := ⟨_, List.getElem?_eq_getElem (by rw [h.len]; exact hi)⟩
  have hc : ∀ k, k < 5 → w.cell? ⟨g, i * 5 + k, none⟩ = (s.cells u)[k]? := fun k hk => by
   rw [h.own.cellAt (i * 5 + k) (by omega)]
   exact flatSp_get SS vs i k s u h.len hs hu hk
  have ha : (⟨g, 0, none⟩ : Addr).add (i * 5) = ⟨g, i * 5, none⟩ := addz g (i * 5)
  rw [ha]
  exact ⟨hc 0 (by omega), hc 1 (by omega), ⟨u, hc 2 (by omega), (h.row i u s hu hs).1⟩, hc 3 (by omega), hc 4 (by omega)⟩
theorem wps_three {w : World} {g : Nat} {p1 p2 p3 : Wp} {t : TypeId} {fz : Nat × Nat} (h : w.heap[g]? = some (.cells #[.string p1.n, .int .i64 p1.r, .int .i64 p1.c, .string p2.n, .int .i64 p2.r, .int .i64 p2.c, .string p3.n, .int .i64 p3.r, .int .i64 p3.c] t fz)) {n : Nat} (h1 : 1 ≤ n) (h3 : n ≤ 3) :
  IsWps w (.slice (some ⟨g, 0, none⟩) n 3) ([p1, p2, p3].take n) := by
 refine .inr ⟨⟨g, 0, none⟩, 3, by rw [List.length_take]; simp; omega, by rw [List.length_take]; simp; omega, by unfold maxLen; omega, fun i f hf => ?_⟩
 have hi : i < n := by
  have := (List.getElem?_eq_some_iff.1 hf).1
  rw [List.length_take] at this
  omega
 rw [List.getElem?_take_of_lt hi] at hf
 have hc : ∀ k, w.cell? ⟨g, k, none⟩ = _ := fun k => obj_cell h k
 rw [addz]
 match i, hf with
 | 0, hf => simp at hf; subst hf; exact ⟨hc 0, hc 1, hc 2⟩
 | 1, hf => simp at hf; subst hf; exact ⟨hc 3, hc 4, hc 5⟩
 | 2, hf => simp at hf; subst hf; exact ⟨hc 6, hc 7, hc 8⟩
 | i + 3, hf => omega
end Go.Proofs.YtalnfojaccfcjaaGreatDoor
namespace Go.Proofs.YtalnfojaccfcjaaGreatDoor
open Go.RowKit
theorem IsDk.forms {w : World} {wv tv fv : Value} {d : Dk} (h : IsDk w wv tv fv d) : ∃ ao ac bo bc co cc, wv = .slice ao d.ws.length ac ∧ tv = .slice bo d.ts.length bc ∧ fv = .slice co d.fs.length cc := by
 obtain ⟨ao, ac, h1⟩ := h.ws.form
 obtain ⟨bo, bc, h2⟩ := h.ts.form
 obtain ⟨co, cc, h3⟩ := h.fs.form
 exact ⟨ao, ac, bo, bc, co, cc, h1, h2, h3⟩
theorem named_yes {ws : List Wr} {s : ByteArray} {i : Nat} (hi : i < ws.length) (h : ((ws[i]).n.toList == s.toList) = true) : namedW ws s = true := List.any_eq_true.2 ⟨_, List.getElem_mem hi, h⟩
theorem named_no {ws : List Wr} {s : ByteArray} (h : ∀ i (hi : i < ws.length), ((ws[i]).n.toList == s.toList) = false) : namedW ws s = false := by
 refine List.any_eq_false.2 fun x hx => ?_
 obtain ⟨i, hi, rfl⟩ := List.getElem_of_mem hx
 rw [h i hi]
 decide
end Go.Proofs.YtalnfojaccfcjaaGreatDoor
namespace Go.Proofs.YtalnfojaccfcjaaGreatDoor
open Go.RowKit
def wareB (w : Wr) : Prop := 1 ≤ w.x ∧ w.x ≤ 8 ∧ 1 ≤ w.y ∧ w.y ≤ 12
theorem mul_small {a b : Int} (h1 : 0 ≤ a) (h2 : a ≤ 8) (h3 : 0 ≤ b) (h4 : b ≤ 12) : 0 ≤ a * b ∧ a * b ≤ 96 := by
 refine ⟨Int.mul_nonneg h1 h3, ?_⟩
 have := Int.mul_le_mul h2 h4 h3 (by omega : (0 : Int) ≤ 8)
 omega
theorem index_cons {ws : List Wr} {i : Nat} (hi : i < ws.length) (K : Int) (n : ByteArray) (r c : Int) : indexW (ws.drop i) K n r c = (if (ws[i]).n.toList == n.toList then (if 0 ≤ r ∧ r < (ws[i]).x ∧ 0 ≤ c ∧ c < (ws[i]).y then some (K + (r * (ws[i]).y + c)) else none) else indexW (ws.drop (i + 1)) (K + (ws[i]).x * (ws[i]).y) n r c) := by
 rw [List.drop_eq_getElem_cons hi]
 rfl
set_option maxHeartbeats 2000000 in
theorem r8index_any (wv tv fv : Value) (d : Dk) (n : ByteArray) (r c : Int) (w : World) (h : IsDk w wv tv fv d) (hb : ∀ x ∈ d.ws, wareB x) (h100 : d.ws.length ≤ 100) : Calls Tryz.prog 64 #[.agg #[wv, tv, fv], .agg #[.string n, .int .i64 r, .int .i64 c]] w fun e w' => e = .returned (.tuple #[.int .i64 ((indexW d.ws 0 n r c).getD 0), .bool (hasW d.ws n r c)]) ∧ Q w w' := by
 obtain ⟨ao, ac, bo, bc, co, cc, rfl, rfl, rfl⟩ := h.forms
 have hQ := ((Q.refl w).alloc #[.slice ao d.ws.length ac, .slice bo d.ts.length bc, .slice co d.fs.length cc] 26).alloc #[.string n, .int .i64 r, .int .i64 c] 39
 have hR := h.ws.keepB hQ.b
 obtain ⟨W, hW⟩ : ∃ W, (w.alloc (.cells #[.slice ao d.ws.length ac, .slice bo d.ts.length bc, .slice co d.fs.length cc] 26)).alloc (.cells #[.string n, .int .i64 r, .int .i64 c] 39) = W := ⟨_, rfl⟩
 have k0 : W.cell? ⟨w.heap.size, 0, none⟩ = some (.slice ao d.ws.length ac) := by rw [← hW]; exact ((Q.refl _).alloc _ _).keep (by rw [World.cell?_alloc_new]; rfl)
 have e1 : (w.alloc (.cells #[.slice ao d.ws.length ac, .slice bo d.ts.length bc, .slice co d.fs.length cc] 26)).heap.size = w.heap.size + 1 := by simp
 have k1 : W.cell? ⟨w.heap.size + 1, 0, none⟩ = some (.string n) := by rw [← hW, ← e1, World.cell?_alloc_new]; rfl
 have k2 : W.cell? ⟨w.heap.size + 1, 1, none⟩ = some (.int .i64 r) := by rw [← hW, ← e1, World.cell?_alloc_new]; rfl
 have k3 : W.cell? ⟨w.heap.size + 1, 2, none⟩ = some (.int .i64 c) := by rw [← hW, ← e1, World.cell?_alloc_new]; rfl
 rw [hW] at hR hQ
 replace hQ := Lib.hid hQ
 clear h e1
 unfold hasW
 obtain ⟨R, hRR⟩ : ∃ R, indexW d.ws 0 n r c = R := ⟨_, rfl⟩
 rw [hRR]
 go_enter Tryz.func64, Tryz.ntmps64
 go_wp2
 try rw [hW]
 clear hW
 generalize w.heap.size = H at *
 go_loopw [6, 7] (fun nv iv wr => ∃ (i : Nat) (K : Int), i ≤ d.ws.length ∧ iv = .int .i64 i ∧ nv = .int .i64 K ∧ 0 ≤ K ∧ K ≤ 96 * (i : Int) ∧ R = indexW (d.ws.drop i) K n r c ∧ Q W wr) (fun _ iv _ => d.ws.length + 1 - (intOf iv).toNat)
 case atStart => exact ⟨0, 0, Nat.zero_le _, rfl, rfl, by omega, by omega, hRR.symm, Q.refl _⟩
 case round =>
  obtain ⟨i, K, hi, rfl, rfl, hK0, hK1, hRi, hQi⟩ := hrel
  obtain ⟨wo, rfl⟩ : ∃ wo : World, wo = wr := ⟨_, rfl⟩
  clear hRR
  replace k0 := hQi.keep k0
  replace k1 := hQi.keep k1
  replace k2 := hQi.keep k2
  replace k3 := hQi.keep k3
  by_cases hl : i < d.ws.length
  ·have hlB : decide ((i : Int) < (d.ws.length : Int)) = true := decide_eq_true (by omega)
   have hlI : (i : Int) < (d.ws.length : Int) := by omega
   have hi0 : (0 : Int) ≤ (i : Int) := by omega
   have wk1 : IntKind.i64.wrap ((i : Int) + 1) = (i : Int) + 1 := by rw [IntKind.wrap_i64]; omega
   obtain ⟨a, cap, e1, _, _, hr⟩ := (hR.keepB hQi.b).at_ hl
   obtain ⟨rfl, _, rfl⟩ : ao = some a ∧ True ∧ ac = cap := by simpa using e1
   have hbi := hb _ (List.getElem_mem hl)
   rw [index_cons hl] at hRi
   obtain ⟨F, hF⟩ : ∃ F, d.ws[i] = F := ⟨_, rfl⟩
   rw [hF] at hr hRi hbi
   obtain ⟨b1, b2, b3, b4⟩ := hbi
   obtain ⟨g1, g2, g3, g4, sv, g5, g6⟩ := hr
   obtain ⟨so, sc, rfl⟩ := secs_form g6
   obtain ⟨sn, hsn⟩ : ∃ sn, F.l.length = sn := ⟨_, rfl⟩
   rw [hsn] at g5 g6
   clear hsn
   obtain ⟨N, X, Y, Z, SL⟩ := F
   simp only at g1 g2 g3 g4 g5 hRi b1 b2 b3 b4
   have q1 := (Q.refl wo).alloc #[.string N, .int .i64 X, .int .i64 Y, .int .i64 Z, .slice so sn sc] 33
   have m0 := q1.keep k0
   have m1 := q1.keep k1
   have m2 := q1.keep k2
   have m3 := q1.keep k3
   have hs := World.block_lt_of_cell? _ _ k1
   have HQ := Lib.hid (hQi.trans q1)
   have HL := Lib.hid hl
   obtain ⟨W1, hW1⟩ : ∃ W1, wo.alloc (.cells #[.string N, .int .i64 X, .int .i64 Y, .int .i64 Z, .slice so sn sc] 33) = W1 := ⟨_, rfl⟩
   have p0 : W1.cell? ⟨wo.heap.size, 0, none⟩ = some (.string N) := by rw [← hW1, World.cell?_alloc_new]; rfl
   have p1 : W1.cell? ⟨wo.heap.size, 1, none⟩ = some (.int .i64 X) := by rw [← hW1, World.cell?_alloc_new]; rfl
   have p2 : W1.cell? ⟨wo.heap.size, 2, none⟩ = some (.int .i64 Y) := by rw [← hW1, World.cell?_alloc_new]; rfl
   rw [hW1] at m0 m1 m2 m3 HQ
   clear hR hF e1 g6 q1 hs hQi hb hi
   cases hc : (N.toList == n.toList)
   ·rw [hc, if_neg (by decide)] at hRi
    have hxy := mul_small (a := X) (b := Y) (by omega) b2 (by omega) b4
    obtain ⟨P, hP⟩ : ∃ P, X * Y = P := ⟨_, rfl⟩
    rw [hP] at hxy hRi
    obtain ⟨K', hK'⟩ : ∃ K', K + P = K' := ⟨_, rfl⟩
    rw [hK'] at hRi
    have w1 : IntKind.i64.wrap (X * Y) = P := by rw [hP, IntKind.wrap_i64]; omega
    have w2 : IntKind.i64.wrap (K + P) = K' := by rw [hK', IntKind.wrap_i64]; omega
    have HS := Lib.hid (And.intro hRi (show 0 ≤ K' ∧ K' ≤ 96 * ((i : Int) + 1) by omega))
    clear hRi hxy hP hK' hK0 hK1 hl b1 b2 b3 b4
    go_wp2
    try rw [hW1]
    go_roundw
    case rel => exact ⟨i + 1, K', by have := HL.out; omega, by go_num, rfl, HS.out.2.1, by have := HS.out.2.2; omega, HS.out.1, HQ.out⟩
    case measure => have := HL.out; simp [intOf]; omega
   ·rw [hc, if_pos rfl] at hRi
    by_cases r0 : 0 ≤ r
    ·have r0B : decide (r < 0) = false := decide_eq_false (by omega)
     by_cases r1 : r < X
     ·have r1B : decide (X ≤ r) = false := decide_eq_false (by omega)
      by_cases c0 : 0 ≤ c
      ·have c0B : decide (c < 0) = false := decide_eq_false (by omega)
       by_cases c1 : c < Y
       ·have c1B : decide (Y ≤ c) = false := decide_eq_false (by omega)
        rw [if_pos ⟨r0, r1, c0, c1⟩] at hRi
        have hxy := mul_small (a := r) (b := Y) r0 (by omega) (by omega) b4
        obtain ⟨P, hP⟩ : ∃ P, r * Y = P := ⟨_, rfl⟩
        rw [hP] at hxy hRi
        have w1 : IntKind.i64.wrap (r * Y) = P := by rw [hP, IntKind.wrap_i64]; omega
        obtain ⟨K1, hK1'⟩ : ∃ K1, K + P = K1 := ⟨_, rfl⟩
        obtain ⟨K2, hK2⟩ : ∃ K2, K1 + c = K2 := ⟨_, rfl⟩
        have w2 : IntKind.i64.wrap (K + P) = K1 := by rw [hK1', IntKind.wrap_i64]; omega
        have w3 : IntKind.i64.wrap (K1 + c) = K2 := by rw [hK2, IntKind.wrap_i64]; omega
        have e2 : K + (P + c) = K2 := by omega
        rw [e2] at hRi
        subst hRi
        clear hP hxy hK1' hK2 e2 hK0 hK1 b1 b2 b3 b4 r0 r1 c0 c1 hl
        go_wp2
        try rw [hW1]
        go_ret2
        exact ⟨rfl, hQ.out.trans HQ.out⟩
       ·have c1B : decide (Y ≤ c) = true := decide_eq_true (by omega)
        rw [if_neg (by omega)] at hRi
        subst hRi
        clear hK0 hK1 b1 b2 b3 b4 r0 r1 c0 c1 hl
        go_wp2
        try rw [hW1]
        go_ret2
        exact ⟨rfl, hQ.out.trans HQ.out⟩
      ·have c0B : decide (c < 0) = true := decide_eq_true (by omega)
       rw [if_neg (by omega)] at hRi
       subst hRi
       clear hK0 hK1 b1 b2 b3 b4 r0 r1 c0 hl
       go_wp2
       try rw [hW1]
       go_ret2
       exact ⟨rfl, hQ.out.trans HQ.out⟩
     ·have r1B : decide (X ≤ r) = true := decide_eq_true (by omega)
      rw [if_neg (by omega)] at hRi
      subst hRi
      clear hK0 hK1 b1 b2 b3 b4 r0 r1 hl
      go_wp2
      try rw [hW1]
      go_ret2
      exact ⟨rfl, hQ.out.trans HQ.out⟩
    ·have r0B : decide (r < 0) = true := decide_eq_true (by omega)
     rw [if_neg (by omega)] at hRi
     subst hRi
     clear hK0 hK1 b1 b2 b3 b4 r0 hl
     go_wp2
     try rw [hW1]
     go_ret2
     exact ⟨rfl, hQ.out.trans HQ.out⟩
  ·have hlB : decide ((i : Int) < (d.ws.length : Int)) = false := decide_eq_false (by omega)
   rw [List.drop_eq_nil_of_le (by omega)] at hRi
   have hRn : R = none := hRi
   subst hRn
   have HQ := Lib.hid (hQ.out.trans hQi)
   clear hRi hR hQi hi hK0 hK1
   go_wp2
   go_ret2
   exact ⟨rfl, HQ.out⟩
end Go.Proofs.YtalnfojaccfcjaaGreatDoor
