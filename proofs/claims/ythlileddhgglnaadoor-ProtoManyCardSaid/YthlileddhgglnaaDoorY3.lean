/-
 Contracts and what they rest on.
-/
import Derived.Test.YthlileddhgglnaaDoorChecked
import Derived.Lib.Hide
import Derived.KernelRfl
import Derived.Laws.OwnMore
import Derived.Laws.BytesArg
import Derived.OwnWalk
import Derived.Test.YthlileddhgglnaaDoorY2
namespace Go.Proofs.YthlileddhgglnaaDoor
open Go.RowKit
def BAt (w : World) (b o : Nat) (bs : List UInt8) : Prop := ∀ i c, bs[i]? = some c → w.cell? ⟨b, o + i, none⟩ = some (.int .u8 ((c.toNat : Nat) : Int))
theorem BAt.keep {w w' : World} {b o : Nat} {bs : List UInt8} (h : BAt w b o bs) (q : B w w') : BAt w' b o bs := fun i c hc => q.keep (h i c hc)
structure IsB (w : World) (ao : Option Addr) (cap b o : Nat) (bs : List UInt8) : Prop where
 at_ : BAt w b o bs
 ao : 0 < bs.length → ao = some ⟨b, o, none⟩
 le : bs.length ≤ cap
 max : cap ≤ maxLen
theorem IsB.keep {w w' : World} {ao : Option Addr} {cap b o : Nat} {bs : List UInt8} (h : IsB w ao cap b o bs) (q : B w w') : IsB w' ao cap b o bs := ⟨h.at_.keep q, h.ao, h.le, h.max⟩
def nums (bs : List UInt8) : List Int := bs.map fun c => ((c.toNat : Nat) : Int)
theorem nums_len (bs : List UInt8) : (nums bs).length = bs.length := by simp [nums]
theorem nums_get (bs : List UInt8) (i : Nat) (c : UInt8) (h : bs[i]? = some c) : (nums bs).getD i 0 = ((c.toNat : Nat) : Int) := by
 unfold nums
 rw [List.getD_eq_getElem?_getD, List.getElem?_map, h]
 rfl
theorem bytes_nums (bs : List UInt8) : (nums bs).map (fun n => UInt8.ofNat n.toNat) = bs := by
 unfold nums
 rw [List.map_map]
 conv => rhs; rw [← List.map_id bs]
 apply List.map_congr_left
 intro c _
 simp
theorem BAt.nums {w : World} {b o n : Nat} {bs : List UInt8} (h : BAt w b o bs) (hn : bs.length = n) : ∀ i, i < n → w.cell? ⟨b, o + i, none⟩ = some (.int .u8 ((nums bs).getD i 0)) := fun i hi => by
 have hg : bs[i]? = some bs[i] := List.getElem?_eq_getElem (by omega)
 rw [nums_get bs i _ hg]
 exact h i _ hg
theorem BAt.drop {w : World} {b o : Nat} {bs : List UInt8} (h : BAt w b o bs) (k : Nat) : BAt w b (o + k) (bs.drop k) := fun i c hc => by
 rw [List.getElem?_drop] at hc
 rw [Nat.add_assoc]
 exact h _ _ hc
theorem BAt.take {w : World} {b o : Nat} {bs : List UInt8} (h : BAt w b o bs) (k : Nat) : BAt w b o (bs.take k) := fun i c hc => by
 rw [List.getElem?_take] at hc
 split at hc
 ·exact h _ _ hc
 ·cases hc
def strB (l : List UInt8) : ByteArray := ⟨l.toArray⟩
theorem strB_size (l : List UInt8) : (strB l).size = l.length := by simp [strB, ByteArray.size]
theorem strB_nums (l : List UInt8) : strOfNums (nums l) = strB l := by
 unfold strOfNums strB
 rw [bytes_nums]
def flatW (ws : List Wd) : List Value := ws.flatMap fun x => [.int .i64 ((x.1 : Nat) : Int), .string (strB x.2)]
theorem flatW_get : ∀ (ws : List Wd) (i : Nat) (x : Wd), ws[i]? = some x → (flatW ws)[i * 2]? = some (.int .i64 ((x.1 : Nat) : Int)) ∧ (flatW ws)[i * 2 + 1]? = some (.string (strB x.2))
 | [], _, _, h => by simp at h
 | y :: l, 0, x, h => by
  simp at h; subst h; exact ⟨rfl, rfl⟩
 | y :: l, i + 1, x, h => by
  have ih := flatW_get l i x (by simpa using h)
  constructor
  ·show ([_, _] ++ flatW l)[(i + 1) * 2]? = _
   rw [List.getElem?_append_right (by simp; omega), show (i + 1) * 2 - ([_, _] : List Value).length = i * 2 by simp; omega]
   exact ih.1
  ·show ([_, _] ++ flatW l)[(i + 1) * 2 + 1]? = _
   rw [List.getElem?_append_right (by simp; omega), show (i + 1) * 2 + 1 - ([_, _] : List Value).length = i * 2 + 1 by simp; omega]
   exact ih.2
theorem flatW_snoc (ws : List Wd) (x : Wd) : flatW (ws ++ [x]) = flatW ws ++ [.int .i64 ((x.1 : Nat) : Int), .string (strB x.2)] := by simp [flatW]
def IsWords (w : World) (v : Value) (ws : List Wd) : Prop :=
 (v = .slice none 0 0 ∧ ws = []) ∨
 ∃ g cap, v = .slice (some ⟨g, 0, none⟩) ws.length cap ∧ ws.length ≤ cap ∧ cap ≤ maxLen ∧ ∀ i x, ws[i]? = some x → w.cell? ⟨g, i * 2, none⟩ = some (.int .i64 ((x.1 : Nat) : Int)) ∧ w.cell? ⟨g, i * 2 + 1, none⟩ = some (.string (strB x.2))
theorem IsWords.form {w : World} {v : Value} {ws : List Wd} (h : IsWords w v ws) : ∃ ao cap, v = .slice ao ws.length cap := by
 rcases h with ⟨rfl, rfl⟩ | ⟨g, cap, rfl, _⟩ <;> exact ⟨_, _, rfl⟩
theorem IsWords.full {w : World} {v : Value} {ws : List Wd} (h : IsWords w v ws) (hw : 0 < ws.length) : ∃ g cap, v = .slice (some ⟨g, 0, none⟩) ws.length cap ∧ ws.length ≤ cap ∧ cap ≤ maxLen ∧ g < w.heap.size ∧ ∀ i x, ws[i]? = some x → w.cell? ⟨g, i * 2, none⟩ = some (.int .i64 ((x.1 : Nat) : Int)) ∧ w.cell? ⟨g, i * 2 + 1, none⟩ = some (.string (strB x.2)) := by
 rcases h with ⟨rfl, rfl⟩ | ⟨g, cap, h1, h2, h3, h4⟩
 ·simp at hw
 ·exact ⟨g, cap, h1, h2, h3, World.block_lt_of_cell? w _ (h4 0 _ (List.getElem?_eq_getElem hw)).1, h4⟩
theorem IsWords.block {w w' : World} {v : Value} {ws : List Wd} (h : IsWords w v ws) (hb : ∀ b, v.ownBlock = some b → b < w.heap.size → w'.heap[b]? = w.heap[b]?) : IsWords w' v ws := by
 rcases h with h | ⟨g, cap, rfl, h2, h3, h4⟩
 ·exact .inl h
 ·refine .inr ⟨g, cap, rfl, h2, h3, fun i x hx => ?_⟩
  obtain ⟨k1, k2⟩ := h4 i x hx
  have hlt := World.block_lt_of_cell? w _ k1
  have e := hb g rfl hlt
  exact ⟨(World.cell?_of_block (a := ⟨g, i * 2, none⟩) e).trans k1, (World.cell?_of_block (a := ⟨g, i * 2 + 1, none⟩) e).trans k2⟩
theorem IsWords.keep {w w' : World} {v : Value} {ws : List Wd} (h : IsWords w v ws) (q : B w w') : IsWords w' v ws := h.block fun b _ hlt => q.below.block b hlt
theorem words_own {w : World} {base : Nat} {e : TypeId} {ao : Option Addr} {k c : Nat} {ws : List Wd} (h : w.ownsRow base e 2 (.slice ao k c) k (flatW ws)) (hl : ws.length = k) : IsWords w (.slice ao k c) ws := by
 have hh := h
 rcases hh.2 with ⟨h0, h1⟩ | ⟨g, cap, cur, hv, _, _, h1, h2, _⟩
 ·refine .inl ⟨h0, ?_⟩
  simp only [Value.slice.injEq] at h0
  exact List.length_eq_zero_iff.1 (by omega)
 ·simp only [Value.slice.injEq] at hv
  obtain ⟨rfl, _, rfl⟩ := hv
  subst hl
  refine .inr ⟨g, c, rfl, h1, h2, fun i x hx => ?_⟩
  have hi : i < ws.length := (List.getElem?_eq_some_iff.1 hx).1
  obtain ⟨k1, k2⟩ := flatW_get ws i x hx
  exact ⟨(h.cellAt (i * 2) (by omega)).trans k1, (h.cellAt (i * 2 + 1) (by omega)).trans k2⟩
structure LinesO (w : World) (base : Nat) (e : TypeId) (v : Value) (LL : List (List Wd)) (vs : List Value) : Prop where
 own : w.ownsRow base e 1 v LL.length vs
 row : ∀ (j : Nat) u L, vs[j]? = some u → LL[j]? = some L → IsWords w u L ∧ ∃ b, u.ownBlock = some b ∧ v.ownBlock ≠ some b ∧ b < w.heap.size ∧ base ≤ b
theorem LinesO.nil (w : World) (base : Nat) (e : TypeId) : LinesO w base e (.slice none 0 0) [] [] := ⟨World.ownsRow_nil _ _ _ _, fun j u L h => by simp at h⟩
theorem lines_keep {w w' : World} {base : Nat} {e : TypeId} {v : Value} {LL : List (List Wd)} {vs : List Value} (h : LinesO w base e v LL vs) {row : Option Nat} (q : w.grownBy w' row)
  (hv : ∀ b, row = some b → v.ownBlock ≠ some b) (hs : ∀ b, row = some b → ∀ u ∈ vs, u.ownBlock ≠ some b) : LinesO w' base e v LL vs := by
 refine ⟨h.own.kept (row := row) q ?_, fun j u L hu hL => ?_⟩
 ·cases hb : v.ownBlock with
  | none => exact .inl rfl
  | some b => exact .inr fun e => hv b e.symm hb
 ·obtain ⟨h1, b, h2, h3, h4, h5⟩ := h.row j u L hu hL
  exact ⟨h1.block fun b' hb' hlt => q.block b' hlt (fun e => hs b' e.symm u (List.mem_of_getElem? hu) hb'), b, h2, h3, Nat.lt_of_lt_of_le h4 q.size, h5⟩
theorem B.none {w w' : World} (q : B w w') : w.grownBy w' none := ⟨q.below.os, q.below.tape, q.below.output, q.below.size, fun k hk _ => q.below.block k hk⟩
theorem row_keep {w w' : World} {base : Nat} {e : TypeId} {size n : Nat} {v : Value} {xs : List Value} (h : w.ownsRow base e size v n xs) (q : B w w') : w'.ownsRow base e size v n xs :=
 h.kept (row := none) q.none (by cases v.ownBlock <;> simp)
theorem addz (b j : Nat) : (⟨b, 0, none⟩ : Addr).add j = ⟨b, j, none⟩ := by unfold Addr.add; split <;> simp_all
theorem newest {w : World} {cs : Array Value} {t : TypeId} {H : Nat} (hH : w.heap.size = H) : ∀ j u, cs.toList[j]? = some u → (w.alloc (.cells cs t)).cell? ((⟨H, 0, none⟩ : Addr).add j) = some u := by
 intro j u h
 rw [addz]
 subst hH
 rw [World.cell?_alloc_new]
 simpa using h
theorem info_of {P : Program} {t : TypeId} {z : Value} {s b : Nat} (h : (P.info? t).map (fun i => (i.zero, i.size, i.bytes)) = some (some z, s, b)) : ∃ i, P.info? t = some i ∧ i.zero = some z ∧ i.size = s ∧ i.bytes = b := by
 cases hi : P.info? t with
 | none => rw [hi] at h; cases h
 | some i => rw [hi] at h; simp at h; exact ⟨i, rfl, h.1, h.2.1, h.2.2⟩
theorem LinesO.keep {w w' : World} {base : Nat} {e : TypeId} {v : Value} {LL : List (List Wd)} {vs : List Value} (h : LinesO w base e v LL vs) (q : B w w') : LinesO w' base e v LL vs :=
 lines_keep h q.none (fun b hb => by cases hb) (fun b hb => by cases hb)
theorem LinesO.len {w : World} {base : Nat} {e : TypeId} {v : Value} {LL : List (List Wd)} {vs : List Value} (h : LinesO w base e v LL vs) : vs.length = LL.length := by
 have := h.own.1
 omega
theorem lines_more {w1 w2 : World} {base : Nat} {e : TypeId} {v : Value} {LL : List (List Wd)} {vs : List Value} {g cap : Nat} {u : Value} {L : List Wd} (h : LinesO w1 base e v LL vs)
  (own : w2.ownsRow base e 1 (.slice (some ⟨g, 0, none⟩) (LL.length + 1) cap) (LL.length + 1) (vs ++ [u])) (q : w1.grownBy w2 v.ownBlock) (hat : v.ownBlock = some g ∨ g = w1.heap.size)
  (hu : IsWords w1 u L) {b : Nat} (hb : u.ownBlock = some b) (hvb : v.ownBlock ≠ some b) (hlt : b < w1.heap.size) (hbase : base ≤ b) :
  LinesO w2 base e (.slice (some ⟨g, 0, none⟩) (LL ++ [L]).length cap) (LL ++ [L]) (vs ++ [u]) := by
 have hlen := h.len
 have key : ∀ (u : Value) (L : List Wd), IsWords w1 u L → (∃ b, u.ownBlock = some b ∧ v.ownBlock ≠ some b ∧ b < w1.heap.size ∧ base ≤ b) → IsWords w2 u L ∧ ∃ b, u.ownBlock = some b ∧ (Value.slice (some ⟨g, 0, none⟩) (LL ++ [L]).length cap).ownBlock ≠ some b ∧ b < w2.heap.size ∧ base ≤ b := by
  intro u L hu ⟨b, hb, hvb, hlt, hba⟩
  refine ⟨hu.block fun b' hb' hlt' => q.block b' hlt' (fun e => ?_), b, hb, fun e => ?_, Nat.lt_of_lt_of_le hlt q.size, hba⟩
  ·rw [hb] at hb'
   cases hb'
   exact hvb e.symm
  ·have hg : g = b := Option.some.inj e
   rcases hat with hat | hat
   ·exact hvb (hat.trans (congrArg some hg))
   ·omega
 have elen : (LL ++ [L]).length = LL.length + 1 := by simp
 refine ⟨elen ▸ own, fun j x M hx hM => ?_⟩
 rcases Nat.lt_or_ge j LL.length with hj | hj
 ·rw [List.getElem?_append_left (by omega)] at hx hM
  obtain ⟨h1, h2⟩ := h.row j x M hx hM
  have := key x M h1 h2
  exact this
 ·have hj' : j = LL.length := by
   have := (List.getElem?_eq_some_iff.1 hM).1
   simp at this
   omega
  subst hj'
  rw [List.getElem?_append_right (by omega)] at hx hM
  simp only [Nat.sub_self, List.getElem?_cons_zero, Option.some.injEq] at hM
  rw [show LL.length - vs.length = 0 by omega] at hx
  simp only [List.getElem?_cons_zero, Option.some.injEq] at hx
  subst hx hM
  exact key _ _ hu ⟨b, hb, hvb, hlt, hbase⟩
def IsLines (w : World) (v : Value) (LL : List (List Wd)) : Prop :=
 (v = .slice none 0 0 ∧ LL = []) ∨
 ∃ g cap, v = .slice (some ⟨g, 0, none⟩) LL.length cap ∧ LL.length ≤ cap ∧ cap ≤ maxLen ∧ ∀ i L, LL[i]? = some L → ∃ u, w.cell? ⟨g, i, none⟩ = some u ∧ IsWords w u L
theorem IsLines.keep {w w' : World} {v : Value} {LL : List (List Wd)} (h : IsLines w v LL) (q : B w w') : IsLines w' v LL := by
 rcases h with h | ⟨g, cap, h1, h2, h3, h4⟩
 ·exact .inl h
 ·exact .inr ⟨g, cap, h1, h2, h3, fun i L hL => by obtain ⟨u, k1, k2⟩ := h4 i L hL; exact ⟨u, q.keep k1, k2.keep q⟩⟩
theorem IsLines.form {w : World} {v : Value} {LL : List (List Wd)} (h : IsLines w v LL) : ∃ ao cap, v = .slice ao LL.length cap := by
 rcases h with ⟨rfl, rfl⟩ | ⟨g, cap, rfl, _⟩ <;> exact ⟨_, _, rfl⟩
theorem LinesO.is {w : World} {base : Nat} {e : TypeId} {v : Value} {LL : List (List Wd)} {vs : List Value} (h : LinesO w base e v LL vs) : IsLines w v LL := by
 have hown := h.own
 rcases hown.2 with ⟨h0, h1⟩ | ⟨g, cap, cur, rfl, _, _, h1, h2, _⟩
 ·exact .inl ⟨h0, List.length_eq_zero_iff.1 (by omega)⟩
 ·refine .inr ⟨g, cap, rfl, h1, h2, fun i L hL => ?_⟩
  have hi : i < LL.length := (List.getElem?_eq_some_iff.1 hL).1
  have hlen := h.len
  have hu : vs[i]? = some vs[i] := List.getElem?_eq_getElem (by omega)
  exact ⟨_, (hown.cellAt i (by omega)).trans hu, (h.row i _ L hu hL).1⟩
end Go.Proofs.YthlileddhgglnaaDoor
namespace Go.Proofs.YthlileddhgglnaaDoor
open Go.RowKit
abbrev Wr := Rec
structure Fl where
 n : ByteArray
 r : Int
 c : Int
 v : Int
structure Dk where
 ws : List Wr
 ts : List Wr
 fs : List Fl
def wellL (l : List UInt8) : Option (List UInt8 × Nat × Nat) :=
 let n := l.takeWhile fun c => decide (c.toNat ≠ 46)
 match l.drop (n.length + 1) with
 | [] => none
 | r :: ds => if nameS (strB n) = true ∧ 65 ≤ r.toNat ∧ r.toNat ≤ 72 ∧ numOk (strB ds) = true ∧ 1 ≤ numV (strB ds) ∧ numV (strB ds) ≤ 12 then some (n, r.toNat - 65, numV (strB ds) - 1) else none
def moreR (w : Wr) (s : Sec) : Wr := { w with l := w.l ++ [s] }
def moreW : List Wr → Sec → List Wr
 | [], _ => []
 | [w], s => [moreR w s]
 | w :: ws, s => w :: moreW ws s
def Dk.add (d : Dk) (o : Nat) (s : Sec) : Dk := if o = 1 then { d with ws := moreW d.ws s } else if o = 2 then { d with ts := moreW d.ts s } else d
def decI (x : Int) : List UInt8 := Lib.decDigits x.toNat
def wellT (n : ByteArray) (r c : Int) : List UInt8 := if nameS n = true ∧ 0 ≤ r ∧ r < 8 ∧ 0 ≤ c ∧ c < 12 then n.data.toList ++ [46, UInt8.ofNat (65 + r.toNat)] ++ decI (c + 1) else []
def lineT : List (List UInt8) → List UInt8
 | [] => [10]
 | [w] => w ++ [10]
 | w :: ws => w ++ 32 :: lineT ws
end Go.Proofs.YthlileddhgglnaaDoor
namespace Go.Proofs.YthlileddhgglnaaDoor
open Go.RowKit
structure FlAt (w : World) (p : Addr) (f : Fl) : Prop where
 n : w.cell? p = some (.string f.n)
 r : w.cell? ⟨p.block, p.off + 1, none⟩ = some (.int .i64 f.r)
 c : w.cell? ⟨p.block, p.off + 2, none⟩ = some (.int .i64 f.c)
 v : w.cell? ⟨p.block, p.off + 3, none⟩ = some (.int .i64 f.v)
theorem FlAt.keepB {w w' : World} {p : Addr} {f : Fl} (h : FlAt w p f) (q : B w w') : FlAt w' p f := ⟨q.keep h.n, q.keep h.r, q.keep h.c, q.keep h.v⟩
def IsFls (w : World) (v : Value) (L : List Fl) : Prop :=
 (v = .slice none 0 0 ∧ L = []) ∨
 ∃ (a : Addr) (cap : Nat), v = .slice (some a) L.length cap ∧ L.length ≤ cap ∧ cap ≤ maxLen ∧ ∀ i f, L[i]? = some f → FlAt w (a.add (i * 4)) f
theorem IsFls.keepB {w w' : World} {v : Value} {L : List Fl} (h : IsFls w v L) (q : B w w') : IsFls w' v L := by
 rcases h with h | ⟨a, cap, h1, h2, h3, h4⟩
 ·exact .inl h
 ·exact .inr ⟨a, cap, h1, h2, h3, fun i f hf => (h4 i f hf).keepB q⟩
theorem IsFls.form {w : World} {v : Value} {L : List Fl} (h : IsFls w v L) : ∃ ao cap, v = .slice ao L.length cap := by
 rcases h with ⟨rfl, rfl⟩ | ⟨a, cap, rfl, _⟩
 ·exact ⟨_, _, rfl⟩
 ·exact ⟨_, _, rfl⟩
theorem IsFls.at_ {w : World} {v : Value} {L : List Fl} (h : IsFls w v L) {i : Nat} (hi : i < L.length) : ∃ (a : Addr) (cap : Nat), v = .slice (some a) L.length cap ∧ L.length ≤ cap ∧ cap ≤ maxLen ∧ FlAt w (a.add (i * 4)) L[i] := by
 rcases h with ⟨_, rfl⟩ | ⟨a, cap, h1, h2, h3, h4⟩
 ·simp at hi
 ·exact ⟨a, cap, h1, h2, h3, h4 i _ (List.getElem?_eq_getElem hi)⟩
structure IsDk (w : World) (wv tv fv : Value) (d : Dk) : Prop where
 ws : IsRecs w wv d.ws
 ts : IsRecs w tv d.ts
 fs : IsFls w fv d.fs
theorem IsDk.keepB {w w' : World} {wv tv fv : Value} {d : Dk} (h : IsDk w wv tv fv d) (q : B w w') : IsDk w' wv tv fv d := ⟨h.ws.keepB q, h.ts.keepB q, h.fs.keepB q⟩
theorem len_max {n : Nat} {cap : Nat} (h : n ≤ cap) (h2 : cap ≤ maxLen) : n ≤ 9223372036854775807 := by unfold maxLen at h2; omega
theorem IsRecs.len {w : World} {v : Value} {L : List Rec} (h : IsRecs w v L) : L.length ≤ 9223372036854775807 := by
 rcases h with ⟨_, rfl⟩ | ⟨a, cap, _, h2, h3, _⟩
 ·simp
 ·exact len_max h2 h3
theorem IsFls.len {w : World} {v : Value} {L : List Fl} (h : IsFls w v L) : L.length ≤ 9223372036854775807 := by
 rcases h with ⟨_, rfl⟩ | ⟨a, cap, _, h2, h3, _⟩
 ·simp
 ·exact len_max h2 h3
end Go.Proofs.YthlileddhgglnaaDoor
namespace Go.Proofs.YthlileddhgglnaaDoor
open Go.RowKit
set_option linter.unusedVariables false
structure Wp where
 n : ByteArray
 r : Int
 c : Int
structure Sp where
 k : Int
 n : ByteArray
 w : List Wp
 v : Int
 m : Int
def Wp.t (p : Wp) : List UInt8 := wellT p.n p.r p.c
def wellsOk (l : List Wp) : Bool := l.all fun p => !p.t.isEmpty
def stepK (s : Sp) : Bool :=
 if s.k = 0 then nameS s.n && decide (s.w.length = 0) && decide (s.v = 0) && decide (s.m = 0)
 else if s.k = 1 then (s.n.toList == []) && decide (s.w.length = 0) && decide (s.v = 0) && (decide (s.m = 0) || decide (s.m = 1))
 else if s.k = 5 then (s.n.toList == []) && decide (s.w.length = 1) && inB s.v 1 20000000 && inB s.m 1 20
 else if s.k = 2 ∨ s.k = 3 ∨ s.k = 4 ∨ s.k = 6 then (s.n.toList == []) && decide (s.m = 0) && inB s.v 1 20000000 && decide (2 ≤ s.w.length) && decide (s.w.length ≤ 96) && (decide (s.k ≠ 2) || decide (s.w.length = 2))
 else false
def stepOk (s : Sp) : Bool := wellsOk s.w && stepK s
def stepsOk (l : List Sp) : Bool := decide (l.length ≤ 200) && l.all stepOk
def kUse : List UInt8 := [117, 115, 101]
def kFresh : List UInt8 := [102, 114, 101, 115, 104]
def kTransfer : List UInt8 := [116, 114, 97, 110, 115, 102, 101, 114]
def kSpread : List UInt8 := [115, 112, 114, 101, 97, 100]
def kGather : List UInt8 := [103, 97, 116, 104, 101, 114]
def kMix : List UInt8 := [109, 105, 120]
def kDilute : List UInt8 := [100, 105, 108, 117, 116, 101]
def kOnce : List UInt8 := [111, 110, 99, 101]
def kEach : List UInt8 := [101, 97, 99, 104]
def kindW (k : Int) : List UInt8 := if k = 0 then kUse else if k = 1 then kFresh else if k = 2 then kTransfer else if k = 3 then kSpread else if k = 4 then kGather else if k = 5 then kMix else kDilute
def stepW (s : Sp) : List (List UInt8) :=
 if s.k = 0 then [s.n.data.toList]
 else if s.k = 1 then [if s.m = 0 then kOnce else kEach]
 else if s.k = 6 then decI s.v :: s.w.map Wp.t
 else if s.k = 2 then s.w.map Wp.t ++ [decI s.v]
 else if s.k = 5 then s.w.map Wp.t ++ [decI s.v, decI s.m]
 else (s.w.take 1).map Wp.t ++ [decI s.v] ++ (s.w.drop 1).map Wp.t
def stepL (s : Sp) : List (List UInt8) := kindW s.k :: stepW s
def stepsT (l : List Sp) : List UInt8 := if stepsOk l then l.flatMap fun s => lineT (stepL s) else []
structure WpAt (w : World) (p : Addr) (f : Wp) : Prop where
 n : w.cell? p = some (.string f.n)
 r : w.cell? ⟨p.block, p.off + 1, none⟩ = some (.int .i64 f.r)
 c : w.cell? ⟨p.block, p.off + 2, none⟩ = some (.int .i64 f.c)
theorem WpAt.keepB {w w' : World} {p : Addr} {f : Wp} (h : WpAt w p f) (q : B w w') : WpAt w' p f := ⟨q.keep h.n, q.keep h.r, q.keep h.c⟩
def IsWps (w : World) (v : Value) (L : List Wp) : Prop :=
 (v = .slice none 0 0 ∧ L = []) ∨
 ∃ (a : Addr) (cap : Nat), v = .slice (some a) L.length cap ∧ L.length ≤ cap ∧ cap ≤ maxLen ∧ ∀ i f, L[i]? = some f → WpAt w (a.add (i * 3)) f
theorem IsWps.keepB {w w' : World} {v : Value} {L : List Wp} (h : IsWps w v L) (q : B w w') : IsWps w' v L := by
 rcases h with h | ⟨a, cap, h1, h2, h3, h4⟩
 ·exact .inl h
 ·exact .inr ⟨a, cap, h1, h2, h3, fun i f hf => (h4 i f hf).keepB q⟩
theorem IsWps.form {w : World} {v : Value} {L : List Wp} (h : IsWps w v L) : ∃ ao cap, v = .slice ao L.length cap := by
 rcases h with ⟨rfl, rfl⟩ | ⟨a, cap, rfl, _⟩
 ·exact ⟨_, _, rfl⟩
 ·exact ⟨_, _, rfl⟩
theorem IsWps.at_ {w : World} {v : Value} {L : List Wp} (h : IsWps w v L) {i : Nat} (hi : i < L.length) : ∃ (a : Addr) (cap : Nat), v = .slice (some a) L.length cap ∧ L.length ≤ cap ∧ cap ≤ maxLen ∧ WpAt w (a.add (i * 3)) L[i] := by
 rcases h with ⟨_, rfl⟩ | ⟨a, cap, h1, h2, h3, h4⟩
 ·simp at hi
 ·exact ⟨a, cap, h1, h2, h3, h4 i _ (List.getElem?_eq_getElem hi)⟩
theorem IsWps.len {w : World} {v : Value} {L : List Wp} (h : IsWps w v L) : L.length ≤ 9223372036854775807 := by
 rcases h with ⟨_, rfl⟩ | ⟨a, cap, _, h2, h3, _⟩
 ·simp
 ·exact len_max h2 h3
structure SpAt (w : World) (p : Addr) (s : Sp) : Prop where
 k : w.cell? p = some (.int .i64 s.k)
 n : w.cell? ⟨p.block, p.off + 1, none⟩ = some (.string s.n)
 ws : ∃ v, w.cell? ⟨p.block, p.off + 2, none⟩ = some v ∧ IsWps w v s.w
 v : w.cell? ⟨p.block, p.off + 3, none⟩ = some (.int .i64 s.v)
 m : w.cell? ⟨p.block, p.off + 4, none⟩ = some (.int .i64 s.m)
theorem SpAt.keepB {w w' : World} {p : Addr} {s : Sp} (h : SpAt w p s) (q : B w w') : SpAt w' p s :=
 ⟨q.keep h.k, q.keep h.n, let ⟨v, h1, h2⟩ := h.ws; ⟨v, q.keep h1, h2.keepB q⟩, q.keep h.v, q.keep h.m⟩
def IsSps (w : World) (v : Value) (L : List Sp) : Prop :=
 (v = .slice none 0 0 ∧ L = []) ∨
 ∃ (a : Addr) (cap : Nat), v = .slice (some a) L.length cap ∧ L.length ≤ cap ∧ cap ≤ maxLen ∧ ∀ i f, L[i]? = some f → SpAt w (a.add (i * 5)) f
theorem IsSps.keepB {w w' : World} {v : Value} {L : List Sp} (h : IsSps w v L) (q : B w w') : IsSps w' v L := by
 rcases h with h | ⟨a, cap, h1, h2, h3, h4⟩
 ·exact .inl h
 ·exact .inr ⟨a, cap, h1, h2, h3, fun i f hf => (h4 i f hf).keepB q⟩
theorem IsSps.form {w : World} {v : Value} {L : List Sp} (h : IsSps w v L) : ∃ ao cap, v = .slice ao L.length cap := by
 rcases h with ⟨rfl, rfl⟩ | ⟨a, cap, rfl, _⟩
 ·exact ⟨_, _, rfl⟩
 ·exact ⟨_, _, rfl⟩
theorem IsSps.at_ {w : World} {v : Value} {L : List Sp} (h : IsSps w v L) {i : Nat} (hi : i < L.length) : ∃ (a : Addr) (cap : Nat), v = .slice (some a) L.length cap ∧ L.length ≤ cap ∧ cap ≤ maxLen ∧ SpAt w (a.add (i * 5)) L[i] := by
 rcases h with ⟨_, rfl⟩ | ⟨a, cap, h1, h2, h3, h4⟩
 ·simp at hi
 ·exact ⟨a, cap, h1, h2, h3, h4 i _ (List.getElem?_eq_getElem hi)⟩
theorem IsSps.len {w : World} {v : Value} {L : List Sp} (h : IsSps w v L) : L.length ≤ 9223372036854775807 := by
 rcases h with ⟨_, rfl⟩ | ⟨a, cap, _, h2, h3, _⟩
 ·simp
 ·exact len_max h2 h3
end Go.Proofs.YthlileddhgglnaaDoor
namespace Go.Proofs.YthlileddhgglnaaDoor
open Go.RowKit
def kindO : Obj → Option (Option TypeId)
 | .cells _ t (0, 0) => some (some t)
 | .map _ _ => some none
 | _ => none
structure Tn (K : List (Option TypeId)) (base : Nat) (w w' : World) : Prop where
 os : w'.os = w.os
 tape : w'.tape = w.tape
 output : w'.output = w.output
 size : w.heap.size ≤ w'.heap.size
 block : ∀ i, i < w.heap.size → w'.heap[i]? = w.heap[i]? ∨ (base ≤ i ∧ ∃ k o, k ∈ K ∧ w.heap[i]? = some o ∧ kindO o = some k)
section
variable {K : List (Option TypeId)} {base : Nat} {a b c w w' : World}
theorem Tn.refl (K : List (Option TypeId)) (base : Nat) (w : World) : Tn K base w w := ⟨rfl, rfl, rfl, Nat.le_refl _, fun _ _ => .inl rfl⟩
theorem Tn.trans (h : Tn K base a b) (k : Tn K base b c) : Tn K base a c := by
 refine ⟨k.os.trans h.os, k.tape.trans h.tape, k.output.trans h.output, Nat.le_trans h.size k.size, fun i hi => ?_⟩
 rcases h.block i hi with h1 | h1
 ·rcases k.block i (Nat.lt_of_lt_of_le hi h.size) with k1 | ⟨k1, q', p, hq', k2, k3⟩
  ·exact .inl (k1.trans h1)
  ·exact .inr ⟨k1, q', p, hq', h1 ▸ k2, k3⟩
 ·exact .inr h1
theorem Tn.mono {K' : List (Option TypeId)} {base' : Nat} (h : Tn K base a b) (hK : ∀ k ∈ K, k ∈ K') (hb : base' ≤ base) : Tn K' base' a b :=
 ⟨h.os, h.tape, h.output, h.size, fun i hi => (h.block i hi).imp id fun ⟨h1, k, o, h2, h3⟩ => ⟨by omega, k, o, hK k h2, h3⟩⟩
theorem B.tn (h : B a b) (K : List (Option TypeId)) (base : Nat) : Tn K base a b := ⟨h.below.os, h.below.tape, h.below.output, h.below.size, fun i hi => .inl (h.below.block i hi)⟩
theorem Tn.below (h : Tn K base a b) {B0 : Nat} (hb : B0 ≤ base) (hs : B0 ≤ a.heap.size) : Below B0 a b :=
 ⟨h.os, h.tape, h.output, h.size, fun k hk => (h.block k (by omega)).elim id fun ⟨h1, _⟩ => by omega⟩
theorem Tn.toB {W : World} (h : Tn K base a b) (hB : B W a) (hb : W.heap.size ≤ base) : B W b := ⟨hB.below.trans (h.below hb hB.below.size)⟩
theorem Tn.obj (h : Tn K base a b) {i : Nat} {o : Obj} (ho : a.heap[i]? = some o) (hk : ∀ k ∈ K, kindO o ≠ some k) : b.heap[i]? = some o := by
 rcases h.block i (Array.getElem?_eq_some_iff.1 ho).1 with h1 | ⟨_, k, p, h1, h2, h3⟩
 ·exact h1.trans ho
 ·obtain rfl : p = o := Option.some.inj (h2.symm.trans ho)
  exact absurd h3 (hk k h1)
theorem Tn.objc (h : Tn K base a b) {i : Nat} {cs : Array Value} {t : TypeId} (ho : a.heap[i]? = some (.cells cs t (0, 0))) (hK : some t ∉ K) : b.heap[i]? = some (.cells cs t (0, 0)) :=
 h.obj ho fun k hk e => by
  have : some t = k := Option.some.inj e
  exact hK (this ▸ hk)
theorem Tn.dr (h : Tn K base a b) (k : Dr b c) : Tn K base a c := by
 obtain ⟨n, rfl⟩ := k
 exact ⟨h.os, h.tape, h.output, h.size, h.block⟩
theorem Tn.drew (h : Tn K base a b) : Tn K base a b.drew := ⟨h.os, h.tape, h.output, h.size, h.block⟩
theorem Tn.drewN (h : Tn K base a b) (n : Nat) : Tn K base a (b.drewN n) := h.trans (((B.refl b).drewN n).tn K base)
theorem Tn.alloc (h : Tn K base a b) (cs : Array Value) (t : TypeId) : Tn K base a (b.alloc (.cells cs t)) := h.trans (((B.refl b).alloc cs t).tn K base)
theorem Tn.set (h : Tn K base a b) {p : Addr} {cs : Array Value} {t : TypeId} (ho : b.heap[p.block]? = some (.cells cs t (0, 0))) (hK : some t ∈ K) (hb : base ≤ p.block) (v : Value) : Tn K base a (b.setCell p v) := by
 refine h.trans ⟨rfl, rfl, rfl, by simp [World.setCell], fun i hi => ?_⟩
 by_cases e : i = p.block
 ·subst e
  exact .inr ⟨hb, some t, .cells cs t (0, 0), hK, ho, rfl⟩
 ·exact .inl (Below.heap_setCell _ _ _ _ e)
theorem Tn.setNew (h : Tn K base a b) {p : Addr} (hp : a.heap.size ≤ p.block) (v : Value) : Tn K base a (b.setCell p v) :=
 ⟨h.os, h.tape, h.output, by simpa [World.setCell] using h.size, fun i hi => by
  rw [Below.heap_setCell b p v i (by omega)]
  exact h.block i hi⟩
theorem ownsRow_obj {base : Nat} {e : TypeId} {size n : Nat} {v : Value} {xs : List Value} (h : w.ownsRow base e size v n xs) {i : Nat} (hi : v.ownBlock = some i) : base ≤ i ∧ ∃ cs, w.heap[i]? = some (.cells cs e (0, 0)) := by
 rcases h.2 with ⟨rfl, _⟩ | ⟨g, cap, cur, rfl, hb, hg, _⟩
 ·simp [Value.ownBlock] at hi
 ·obtain rfl : g = i := by simpa [Value.ownBlock] using hi
  exact ⟨hb, cur, hg⟩
theorem Tn.appended (h : Tn K base a b) {base' : Nat} {e : TypeId} {size n : Nat} {v : Value} {xs : List Value} (ho : b.ownsRow base' e size v n xs)
  (g : b.grownBy c v.ownBlock) (hb : base ≤ base') (hK : some e ∈ K) : Tn K base a c := by
 refine h.trans ⟨g.os, g.tape, g.output, g.size, fun i hi => ?_⟩
 by_cases he : some i = v.ownBlock
 ·obtain ⟨h1, cs, h2⟩ := ownsRow_obj ho he.symm
  exact .inr ⟨by omega, some e, _, hK, h2, rfl⟩
 ·exact .inl (g.block i hi he)
theorem obj_apart {b2 : Nat} {e2 : TypeId} {s2 n2 : Nat} {v2 : Value} {x2 : List Value} {i : Nat} {o : Obj} (ho : w.heap[i]? = some o) (h2 : w.ownsRow b2 e2 s2 v2 n2 x2) (he : kindO o ≠ some (some e2)) : v2.ownBlock ≠ some i := by
 intro e
 obtain ⟨_, cs', h4⟩ := ownsRow_obj h2 e
 rw [ho] at h4
 cases h4
 exact he rfl
theorem obj_grown {row : Option Nat} (g : w.grownBy w' row) {i : Nat} {o : Obj} (ho : w.heap[i]? = some o) (hr : row ≠ some i) : w'.heap[i]? = some o :=
 (g.block i (Array.getElem?_eq_some_iff.1 ho).1 (fun e => hr e.symm)).trans ho
end
end Go.Proofs.YthlileddhgglnaaDoor
namespace Go.Proofs.YthlileddhgglnaaDoor
open Go.RowKit
set_option linter.unusedVariables false
def toldP (k i : Nat) : Nat :=
 if k = 0 then 0 else if k = 1 then 1
 else if k = 5 ∧ i = 3 then 4
 else if i = (if k = 2 then 3 else if k = 6 then 1 else 2) then 3 else 2
def numP (most : Nat) (t : List UInt8) : Bool := numOk (strB t) && decide (1 ≤ numV (strB t)) && decide (numV (strB t) ≤ most)
def takeP (s : Sp) (c : Nat) (t : List UInt8) : Sp × Nat :=
 if c = 0 then ({ s with n := strB t }, if nameS (strB t) then 0 else 25)
 else if c = 1 then (if t = kEach then { s with m := 1 } else s, 0)
 else if c = 2 then (match wellL t with | some (n, r, q) => ({ s with w := s.w ++ [⟨strB n, r, q⟩] }, 0) | none => (s, 26))
 else if c = 3 then (if numP 20000000 t then ({ s with v := numV (strB t) }, 0) else (s, 20))
 else (if numP 20 t then ({ s with m := numV (strB t) }, 0) else (s, 20))
def readP (k : Nat) : Nat → Sp → List Wd → Except (Nat × Nat) Sp
 | _, s, [] => .ok s
 | i, s, x :: ws => if (takeP s (toldP k i) x.2).2 = 0 then readP k (i + 1) (takeP s (toldP k i) x.2).1 ws else .error (x.1, (takeP s (toldP k i) x.2).2)
def kindP (t : List UInt8) : Option Nat :=
 if t = kUse then some 0 else if t = kFresh then some 1 else if t = kTransfer then some 2 else if t = kSpread then some 3 else if t = kGather then some 4 else if t = kMix then some 5 else if t = kDilute then some 6 else none
def enoughP (k n : Nat) : Bool := if k = 0 ∨ k = 1 then decide (n = 2) else if k = 2 ∨ k = 5 then decide (n = 4) else decide (4 ≤ n)
def oftenP (ws : List Wd) : Bool := match ws with
 | _ :: y :: _ => decide (y.2 = kEach) || decide (y.2 = kOnce)
 | _ => false
def sp0 (k : Nat) : Sp := ⟨k, ⟨#[]⟩, [], 0, 0⟩
def headP (ws : List Wd) : Option Nat := match ws with
 | [] => none
 | x :: _ => match kindP x.2 with
  | none => none
  | some k => if enoughP k ws.length && (decide (k ≠ 1) || oftenP ws) then some k else none
def lineP (had : Nat) (ws : List Wd) : Except (Nat × Nat) Sp := match ws with
 | [] => .error (0, 24)
 | x :: rest => match headP ws with
  | none => .error (x.1, 24)
  | some k => if 200 ≤ had ∨ 98 < ws.length then .error (x.1, 27) else readP k 1 (sp0 k) rest
def parseP : List (List Wd) → List Sp → Except (Nat × Nat) (List Sp)
 | [], S => .ok S
 | [] :: LL, S => parseP LL S
 | (x :: ws) :: LL, S => match lineP S.length (x :: ws) with
  | .error e => .error e
  | .ok s => parseP LL (S ++ [s])
def placesP (LL : List (List Wd)) : List (List Nat) := (LL.filter fun ws => !ws.isEmpty).map fun ws => ws.map (·.1)
theorem kindP_lt {t : List UInt8} {k : Nat} (h : kindP t = some k) : k ≤ 6 := by
 unfold kindP at h
 repeat' split at h
 all_goals first | (cases h; done) | (injection h with h; omega)
theorem headP_kind {x : Wd} {ws : List Wd} {k : Nat} (h : headP (x :: ws) = some k) : kindP x.2 = some k ∧ enoughP k (ws.length + 1) = true ∧ (k ≠ 1 ∨ oftenP (x :: ws) = true) := by
 unfold headP at h
 simp only at h
 cases hk : kindP x.2 with
 | none => rw [hk] at h; cases h
 | some j =>
  rw [hk] at h
  simp only at h
  split at h
  ·rename_i hc
   injection h with h
   subst h
   simp only [Bool.and_eq_true, Bool.or_eq_true, decide_eq_true_eq, List.length_cons] at hc
   exact ⟨rfl, hc.1, hc.2⟩
  ·cases h
theorem readP_err : ∀ (k i : Nat) (s : Sp) (ws : List Wd) (p n : Nat), readP k i s ws = .error (p, n) → n ≠ 0
 | _, _, _, [], p, n, h => by cases h
 | k, i, s, x :: ws, p, n, h => by
  rw [readP] at h
  split at h
  ·exact readP_err k _ _ ws p n h
  ·rename_i h0
   cases h
   exact h0
theorem lineP_err {had : Nat} {ws : List Wd} {p n : Nat} (h : lineP had ws = .error (p, n)) : n ≠ 0 := by
 unfold lineP at h
 split at h
 ·cases h; decide
 ·split at h
  ·cases h; decide
  ·split at h
   ·cases h; decide
   ·exact readP_err _ _ _ _ _ _ h
theorem parseP_err : ∀ (LL : List (List Wd)) (S : List Sp) (p n : Nat), parseP LL S = .error (p, n) → n ≠ 0
 | [], S, p, n, h => by cases h
 | [] :: LL, S, p, n, h => parseP_err LL S p n h
 | (x :: ws) :: LL, S, p, n, h => by
  rw [parseP] at h
  cases hl : lineP S.length (x :: ws) with
  | error e => rw [hl] at h; cases h; exact lineP_err hl
  | ok s => rw [hl] at h; exact parseP_err LL _ p n h
theorem parseP_cons {LL : List (List Wd)} {S : List Sp} {i : Nat} {x : Wd} {ws : List Wd} (h : LL[i]? = some (x :: ws)) : parseP (LL.drop i) S = match lineP S.length (x :: ws) with | .error e => .error e | .ok s => parseP (LL.drop (i + 1)) (S ++ [s]) := by
 have hi : i < LL.length := (List.getElem?_eq_some_iff.1 h).1
 rw [List.drop_eq_getElem_cons hi, show LL[i] = x :: ws by rw [List.getElem?_eq_getElem hi] at h; simpa using h, parseP]
theorem parseP_nil {LL : List (List Wd)} {S : List Sp} {i : Nat} (h : LL[i]? = some []) : parseP (LL.drop i) S = parseP (LL.drop (i + 1)) S := by
 have hi : i < LL.length := (List.getElem?_eq_some_iff.1 h).1
 rw [List.drop_eq_getElem_cons hi, show LL[i] = [] by rw [List.getElem?_eq_getElem hi] at h; simpa using h, parseP]
theorem placesP_cons {LL : List (List Wd)} {i : Nat} {x : Wd} {ws : List Wd} (h : LL[i]? = some (x :: ws)) : placesP (LL.take (i + 1)) = placesP (LL.take i) ++ [(x :: ws).map (·.1)] := by
 rw [List.take_add_one, h]
 simp [placesP]
theorem placesP_nil {LL : List (List Wd)} {i : Nat} (h : LL[i]? = some []) : placesP (LL.take (i + 1)) = placesP (LL.take i) := by
 rw [List.take_add_one, h]
 simp [placesP]
theorem placesP_len (LL : List (List Wd)) : (placesP LL).length ≤ LL.length := by
 unfold placesP
 rw [List.length_map]
 exact List.length_filter_le _ _
theorem lineP_had {had : Nat} {ws : List Wd} {s : Sp} (h : lineP had ws = .ok s) : had < 200 ∧ ws.length ≤ 98 := by
 unfold lineP at h
 split at h
 ·cases h
 ·split at h
  ·cases h
  ·split at h
   ·cases h
   ·rename_i hc
    simp only [not_or] at hc
    simp only [List.length_cons] at hc ⊢
    omega
def IsIs (w : World) (v : Value) (l : List Nat) : Prop :=
 (v = .slice none 0 0 ∧ l = []) ∨
 ∃ (g cap : Nat), v = .slice (some ⟨g, 0, none⟩) l.length cap ∧ l.length ≤ cap ∧ cap ≤ maxLen ∧ g < w.heap.size ∧ ∀ i x, l[i]? = some x → w.cell? ⟨g, i, none⟩ = some (.int .i64 ((x : Nat) : Int))
theorem IsIs.block {w w' : World} {v : Value} {l : List Nat} (h : IsIs w v l) (hs : w.heap.size ≤ w'.heap.size) (hb : ∀ b, v.ownBlock = some b → b < w.heap.size → w'.heap[b]? = w.heap[b]?) : IsIs w' v l := by
 rcases h with h | ⟨g, cap, rfl, h1, h2, h3, h4⟩
 ·exact .inl h
 ·have e := hb g rfl h3
  exact .inr ⟨g, cap, rfl, h1, h2, by omega, fun i x hx => (World.cell?_of_block (a := ⟨g, i, none⟩) e).trans (h4 i x hx)⟩
theorem IsIs.keep {w w' : World} {v : Value} {l : List Nat} (h : IsIs w v l) (q : B w w') : IsIs w' v l := h.block q.below.size fun b _ hlt => q.below.block b hlt
theorem IsIs.form {w : World} {v : Value} {l : List Nat} (h : IsIs w v l) : ∃ ao cap, v = .slice ao l.length cap := by
 rcases h with ⟨rfl, rfl⟩ | ⟨g, cap, rfl, _⟩
 ·exact ⟨_, _, rfl⟩
 ·exact ⟨_, _, rfl⟩
def flatI (l : List Nat) : List Value := l.map fun x => .int .i64 ((x : Nat) : Int)
theorem isIs_own {w : World} {base : Nat} {e : TypeId} {v : Value} {l : List Nat} (h : w.ownsRow base e 1 v l.length (flatI l)) : IsIs w v l := by
 rcases h.2 with ⟨h0, h1⟩ | ⟨g, cap, cur, rfl, hb, ho, h1, h2, h3⟩
 ·exact .inl ⟨h0, List.length_eq_zero_iff.1 (by omega)⟩
 ·refine .inr ⟨g, cap, rfl, h1, h2, ?_, fun i x hx => ?_⟩
  ·obtain ⟨_, c2, o2⟩ := ownsRow_obj h (i := g) rfl
   exact obj_lt o2
  ·have hi : i < l.length := (List.getElem?_eq_some_iff.1 hx).1
   rw [h.cellAt i (by omega)]
   simp [flatI, hx]
structure PlsO (w : World) (base : Nat) (e : TypeId) (v : Value) (LL : List (List Nat)) (vs : List Value) : Prop where
 len : vs.length = LL.length
 own : w.ownsRow base e 1 v LL.length vs
 row : ∀ (j : Nat) u l, vs[j]? = some u → LL[j]? = some l → IsIs w u l ∧ ∀ b, u.ownBlock = some b → v.ownBlock ≠ some b ∧ b < w.heap.size
theorem PlsO.nil (w : World) (base : Nat) (e : TypeId) : PlsO w base e (.slice none 0 0) [] [] := ⟨rfl, World.ownsRow_nil _ _ _ _, fun j u l h => by simp at h⟩
theorem PlsO.keep {w w' : World} {base : Nat} {e : TypeId} {v : Value} {LL : List (List Nat)} {vs : List Value} (h : PlsO w base e v LL vs) (q : B w w') : PlsO w' base e v LL vs :=
 ⟨h.len, row_keep h.own q, fun j u l hu hl => by
  obtain ⟨h1, h2⟩ := h.row j u l hu hl
  exact ⟨h1.keep q, fun b hb => ⟨(h2 b hb).1, Nat.lt_of_lt_of_le (h2 b hb).2 q.below.size⟩⟩⟩
def IsPls (w : World) (v : Value) (LL : List (List Nat)) : Prop :=
 (v = .slice none 0 0 ∧ LL = []) ∨
 ∃ (g cap : Nat), v = .slice (some ⟨g, 0, none⟩) LL.length cap ∧ LL.length ≤ cap ∧ cap ≤ maxLen ∧ ∀ (i : Nat) l, LL[i]? = some l → ∃ u, w.cell? ⟨g, i, none⟩ = some u ∧ IsIs w u l
theorem IsPls.keep {w w' : World} {v : Value} {LL : List (List Nat)} (h : IsPls w v LL) (q : B w w') : IsPls w' v LL := by
 rcases h with h | ⟨g, cap, h1, h2, h3, h4⟩
 ·exact .inl h
 ·exact .inr ⟨g, cap, h1, h2, h3, fun i l hl => let ⟨u, k1, k2⟩ := h4 i l hl; ⟨u, q.keep k1, k2.keep q⟩⟩
theorem IsPls.form {w : World} {v : Value} {LL : List (List Nat)} (h : IsPls w v LL) : ∃ ao cap, v = .slice ao LL.length cap := by
 rcases h with ⟨rfl, rfl⟩ | ⟨g, cap, rfl, _⟩
 ·exact ⟨_, _, rfl⟩
 ·exact ⟨_, _, rfl⟩
theorem PlsO.is {w : World} {base : Nat} {e : TypeId} {v : Value} {LL : List (List Nat)} {vs : List Value} (h : PlsO w base e v LL vs) : IsPls w v LL := by
 have hown := h.own
 rcases hown.2 with ⟨h0, h1⟩ | ⟨g, cap, cur, rfl, _, _, h1, h2, _⟩
 ·exact .inl ⟨h0, List.length_eq_zero_iff.1 (by omega)⟩
 ·refine .inr ⟨g, cap, rfl, h1, h2, fun i l hl => ?_⟩
  have hi : i < LL.length := (List.getElem?_eq_some_iff.1 hl).1
  obtain ⟨u, hu⟩ : ∃ u, vs[i]? = some u := ⟨_, List.getElem?_eq_getElem (by rw [h.len]; exact hi)⟩
  exact ⟨u, by rw [h.own.cellAt i (by omega)]; exact hu, (h.row i u l hu hl).1⟩
def flatWp (l : List Wp) : List Value := l.flatMap fun p => [.string p.n, .int .i64 p.r, .int .i64 p.c]
theorem flatWp_snoc (l : List Wp) (p : Wp) : flatWp (l ++ [p]) = flatWp l ++ [.string p.n, .int .i64 p.r, .int .i64 p.c] := by simp [flatWp]
theorem flatWp_get : ∀ (l : List Wp) (i : Nat) (p : Wp), l[i]? = some p → (flatWp l)[i * 3]? = some (.string p.n) ∧ (flatWp l)[i * 3 + 1]? = some (.int .i64 p.r) ∧ (flatWp l)[i * 3 + 2]? = some (.int .i64 p.c)
 | [], _, _, h => by simp at h
 | q :: l, 0, p, h => by
  simp only [List.getElem?_cons_zero, Option.some.injEq] at h
  subst h
  exact ⟨rfl, rfl, rfl⟩
 | q :: l, i + 1, p, h => by
  have := flatWp_get l i p (by simpa using h)
  show ([Value.string q.n, .int .i64 q.r, .int .i64 q.c] ++ flatWp l)[(i + 1) * 3]? = _ ∧ ([Value.string q.n, .int .i64 q.r, .int .i64 q.c] ++ flatWp l)[(i + 1) * 3 + 1]? = _ ∧ ([Value.string q.n, .int .i64 q.r, .int .i64 q.c] ++ flatWp l)[(i + 1) * 3 + 2]? = _
  refine ⟨?_, ?_, ?_⟩
  ·rw [List.getElem?_append_right (by show 3 ≤ _; omega), show (i + 1) * 3 - [Value.string q.n, .int .i64 q.r, .int .i64 q.c].length = i * 3 by show _ - 3 = _; omega]; exact this.1
  ·rw [List.getElem?_append_right (by show 3 ≤ _; omega), show (i + 1) * 3 + 1 - [Value.string q.n, .int .i64 q.r, .int .i64 q.c].length = i * 3 + 1 by show _ - 3 = _; omega]; exact this.2.1
  ·rw [List.getElem?_append_right (by show 3 ≤ _; omega), show (i + 1) * 3 + 2 - [Value.string q.n, .int .i64 q.r, .int .i64 q.c].length = i * 3 + 2 by show _ - 3 = _; omega]; exact this.2.2
theorem isWps_own {w : World} {base : Nat} {e : TypeId} {v : Value} {l : List Wp} (h : w.ownsRow base e 3 v l.length (flatWp l)) : IsWps w v l := by
 rcases h.2 with ⟨h0, h1⟩ | ⟨g, cap, cur, rfl, hb, ho, h1, h2, h3⟩
 ·exact .inl ⟨h0, List.length_eq_zero_iff.1 (by omega)⟩
 ·refine .inr ⟨⟨g, 0, none⟩, cap, rfl, h1, h2, fun i p hp => ?_⟩
  have hi : i < l.length := (List.getElem?_eq_some_iff.1 hp).1
  obtain ⟨k1, k2, k3⟩ := flatWp_get l i p hp
  rw [addz]
  exact ⟨(h.cellAt (i * 3) (by omega)).trans k1, (h.cellAt (i * 3 + 1) (by omega)).trans k2, (h.cellAt (i * 3 + 2) (by omega)).trans k3⟩
end Go.Proofs.YthlileddhgglnaaDoor
namespace Go.Proofs.YthlileddhgglnaaDoor
open Go.RowKit
theorem r8lower_any (n : Nat) (w : World) : Calls Tryd.prog 45 #[.int .u8 (n : Int)] w fun e w' => e = .returned (.bool (lowN n)) ∧ w = w' := by
 unfold lowN
 by_cases c : 97 ≤ n
 ·have cB : decide ((97 : Int) ≤ (n : Int)) = true := decide_eq_true (by omega)
  have e2 : decide (n ≤ 122) = decide ((n : Int) ≤ 122) := decide_eq_decide.2 (by omega)
  rw [decide_eq_true c, e2, Bool.true_and]
  go_enter Tryd.func45, Tryd.ntmps45
  go_wp2
  go_ret
  exact ⟨rfl, rfl⟩
 ·have cB : decide ((97 : Int) ≤ (n : Int)) = false := decide_eq_false (by omega)
  rw [decide_eq_false c, Bool.false_and]
  go_enter Tryd.func45, Tryd.ntmps45
  go_wp2
  go_ret
  exact ⟨rfl, rfl⟩
theorem r8digit_any (n : Nat) (w : World) : Calls Tryd.prog 46 #[.int .u8 (n : Int)] w fun e w' => e = .returned (.bool (digN n)) ∧ w = w' := by
 unfold digN
 by_cases c : 48 ≤ n
 ·have cB : decide ((48 : Int) ≤ (n : Int)) = true := decide_eq_true (by omega)
  have e2 : decide (n ≤ 57) = decide ((n : Int) ≤ 57) := decide_eq_decide.2 (by omega)
  rw [decide_eq_true c, e2, Bool.true_and]
  go_enter Tryd.func46, Tryd.ntmps46
  go_wp2
  go_ret
  exact ⟨rfl, rfl⟩
 ·have cB : decide ((48 : Int) ≤ (n : Int)) = false := decide_eq_false (by omega)
  rw [decide_eq_false c, Bool.false_and]
  go_enter Tryd.func46, Tryd.ntmps46
  go_wp2
  go_ret
  exact ⟨rfl, rfl⟩
theorem r8name_any (s : ByteArray) (w : World) : Calls Tryd.prog 56 #[.string s] w fun e w' => e = .returned (.bool (nameS s)) ∧ w = w' := by
 by_cases h1 : s.size < 1
 ·have h1B : decide ((s.size : Int) < 1) = true := decide_eq_true (by omega)
  rw [nameS_size (.inl h1)]
  clear h1
  go_enter Tryd.func56, Tryd.ntmps56
  go_wp2
  go_ret
  exact ⟨rfl, rfl⟩
 have h1B : decide ((s.size : Int) < 1) = false := decide_eq_false (by omega)
 by_cases h2 : 16 < s.size
 ·have h2B : decide ((16 : Int) < (s.size : Int)) = true := decide_eq_true (by omega)
  rw [nameS_size (.inr h2)]
  clear h1 h2
  go_enter Tryd.func56, Tryd.ntmps56
  go_wp2
  go_ret
  exact ⟨rfl, rfl⟩
 have h2B : decide ((16 : Int) < (s.size : Int)) = false := decide_eq_false (by omega)
 have hz : (0 : Int) < (s.size : Int) := by omega
 have hg0 : ∀ h : 0 < s.size, (s[0]'h).toNat = byteAt s 0 := fun h => byteAt_get s 0 h
 have c0 := fun w => r8lower_any (byteAt s 0) w
 cases h3 : lowN (byteAt s 0)
 ·rw [nameS_first h3]
  rw [h3] at c0
  generalize byteAt s 0 = b0 at *
  clear h3
  go_enter Tryd.func56, Tryd.ntmps56
  go_wp2_with fail
  refine (c0 _).mono ?_
  rintro e w1 ⟨rfl, rfl⟩
  go_wp2
  go_ret
  exact ⟨rfl, rfl⟩
 rw [h3] at c0
 have hgood := Lib.hid (fun h => nameS_good (s := s) (by omega) (by omega) h3 h)
 have hbad := @nameS_bad s
 generalize byteAt s 0 = b0 at *
 generalize nameS s = R at *
 clear h3 h1
 go_enter Tryd.func56, Tryd.ntmps56
 go_wp2_with fail
 refine (c0 _).mono ?_
 rintro e w1 ⟨rfl, rfl⟩
 clear c0 hg0
 go_wp2
 go_loopw [3] (fun i wr => ∃ k : Nat, k ≤ s.size ∧ i = .int .i64 k ∧ (∀ j, j < k → (lowN (byteAt s j) || digN (byteAt s j)) = true) ∧ w = wr) (fun i _ => s.size + 1 - (intOf i).toNat)
 case atStart => exact ⟨0, Nat.zero_le _, rfl, fun j hj => by omega, rfl⟩
 case round =>
  obtain ⟨k, hk, rfl, hall, rfl⟩ := hrel
  by_cases hl : k < s.size
  ·have hlB : decide ((k : Int) < (s.size : Int)) = true := decide_eq_true (by omega)
   have hlI : (k : Int) < (s.size : Int) := by omega
   have hkB : (0 : Int) ≤ (k : Int) := by omega
   have wk1 : IntKind.i64.wrap ((k : Int) + 1) = (k : Int) + 1 := by rw [IntKind.wrap_i64]; omega
   have hg : ∀ h : k < s.size, (s[k]'h).toNat = byteAt s k := fun h => byteAt_get s k h
   have c1 := fun w => r8lower_any (byteAt s k) w
   have c2 := fun w => r8digit_any (byteAt s k) w
   have hb := hbad hl
   have hnext : (lowN (byteAt s k) || digN (byteAt s k)) = true → ∀ j, j < k + 1 → (lowN (byteAt s j) || digN (byteAt s j)) = true := fun h j hj => by
    by_cases c : j = k
    ·subst c; exact h
    ·exact hall j (by omega)
   clear hall
   generalize byteAt s k = b at *
   cases h4 : lowN b
   ·cases h5 : digN b
    ·rw [h4, h5] at hb
     obtain rfl := hb rfl
     rw [h4] at c1
     rw [h5] at c2
     clear hnext h4 h5
     go_wp2_with fail
     refine (c1 _).mono ?_
     rintro e w1 ⟨rfl, rfl⟩
     go_wp2_with fail
     refine (c2 _).mono ?_
     rintro e w1 ⟨rfl, rfl⟩
     go_wp2
     go_ret
     exact ⟨rfl, rfl⟩
    ·have HA := Lib.hid (hnext (by rw [h4, h5]; rfl))
     rw [h4] at c1
     rw [h5] at c2
     clear hnext h4 h5 hb
     go_wp2_with fail
     refine (c1 _).mono ?_
     rintro e w1 ⟨rfl, rfl⟩
     go_wp2_with fail
     refine (c2 _).mono ?_
     rintro e w1 ⟨rfl, rfl⟩
     go_wp2
     go_roundw
     case rel => exact ⟨k + 1, by omega, by go_num, HA.out, trivial⟩
     case measure => simp [intOf]; omega
   ·have HA := Lib.hid (hnext (by rw [h4]; rfl))
    rw [h4] at c1
    clear hnext h4 hb c2
    go_wp2_with fail
    refine (c1 _).mono ?_
    rintro e w1 ⟨rfl, rfl⟩
    go_wp2
    go_roundw
    case rel => exact ⟨k + 1, by omega, by go_num, HA.out, trivial⟩
    case measure => simp [intOf]; omega
  ·have hlB : decide ((k : Int) < (s.size : Int)) = false := decide_eq_false (by omega)
   have HR := Lib.hid (hgood.out (fun i hi => hall i (by omega)))
   clear hall hgood hbad
   go_wp2
   go_ret
   exact ⟨by rw [HR.out]; rfl, rfl⟩
end Go.Proofs.YthlileddhgglnaaDoor
