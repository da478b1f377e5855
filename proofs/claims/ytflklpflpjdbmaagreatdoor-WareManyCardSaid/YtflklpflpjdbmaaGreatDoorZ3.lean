/-
  Bytes, words, lines of words in memory. No program is named here; Decks as texts: which may be, how they are said, how lines of words are read. No program is named here; Fills, decks in memory. No program is named here; Sections in memory that a call owns: facts for walks; A deck that grows: rows inside of rows, all the call's own; Contracts of the document's own names.
-/
import Derived.OwnWalk
import Derived.Laws.OwnMore
import Derived.Deep.AppendLies
import Derived.KernelRfl
import Derived.Laws.BytesArg
import Derived.Test.YtflklpflpjdbmaaGreatDoorChecked
import Derived.Lib.Hide
import Derived.Test.YtflklpflpjdbmaaGreatDoorZ1
import Derived.Test.YtflklpflpjdbmaaGreatDoorZ2
namespace Go.Proofs.YtflklpflpjdbmaaGreatDoor
open Go.RowKit
/-- Bytes lie in block b, from place o on. -/
def BAt (w : World) (b o : Nat) (bs : List UInt8) : Prop := ∀ i c, bs[i]? = some c → w.cell? ⟨b, o + i, none⟩ = some (.int .u8 ((c.toNat : Nat) : Int))
theorem BAt.keep {w w' : World} {b o : Nat} {bs : List UInt8} (h : BAt w b o bs) (q : B w w') : BAt w' b o bs := fun i c hc => q.keep (h i c hc)
/-- The header of a slice of bytes. -/
structure IsB (w : World) (ao : Option Addr) (cap b o : Nat) (bs : List UInt8) : Prop where
  at_ : BAt w b o bs
  ao : 0 < bs.length → ao = some ⟨b, o, none⟩
  le : bs.length ≤ cap
  max : cap ≤ maxLen
theorem IsB.keep {w w' : World} {ao : Option Addr} {cap b o : Nat} {bs : List UInt8} (h : IsB w ao cap b o bs) (q : B w w') : IsB w' ao cap b o bs := ⟨h.at_.keep q, h.ao, h.le, h.max⟩
/-- Numbers of bytes, as the library's contracts want them. -/
def nums (bs : List UInt8) : List Int := bs.map fun c => ((c.toNat : Nat) : Int)
theorem nums_len (bs : List UInt8) : (nums bs).length = bs.length := by simp [nums]
theorem nums_get (bs : List UInt8) (i : Nat) (c : UInt8) (h : bs[i]? = some c) : (nums bs).getD i 0 = ((c.toNat : Nat) : Int) := by
  unfold nums
  rw [List.getD_eq_getElem?_getD, List.getElem?_map, h]
  rfl
theorem bytes_nums (bs : List UInt8) : (nums bs).map (fun n => UInt8.ofNat n.toNat) = bs := by
  unfold nums
  rw [List.map_map]
  conv => rhs; rw [← List.map_id bs]
  apply List.map_congr_left
  intro c _
  simp
theorem BAt.nums {w : World} {b o n : Nat} {bs : List UInt8} (h : BAt w b o bs) (hn : bs.length = n) : ∀ i, i < n → w.cell? ⟨b, o + i, none⟩ = some (.int .u8 ((nums bs).getD i 0)) := fun i hi => by
  have hg : bs[i]? = some bs[i] := List.getElem?_eq_getElem (by omega)
  rw [nums_get bs i _ hg]
  exact h i _ hg
theorem BAt.drop {w : World} {b o : Nat} {bs : List UInt8} (h : BAt w b o bs) (k : Nat) : BAt w b (o + k) (bs.drop k) := fun i c hc => by
  rw [List.getElem?_drop] at hc
  rw [Nat.add_assoc]
  exact h _ _ hc
theorem BAt.take {w : World} {b o : Nat} {bs : List UInt8} (h : BAt w b o bs) (k : Nat) : BAt w b o (bs.take k) := fun i c hc => by
  rw [List.getElem?_take] at hc
  split at hc
  · exact h _ _ hc
  · cases hc
/-- A string of bytes. -/
def strB (l : List UInt8) : ByteArray := ⟨l.toArray⟩
theorem strB_size (l : List UInt8) : (strB l).size = l.length := by simp [strB, ByteArray.size]
theorem strB_nums (l : List UInt8) : strOfNums (nums l) = strB l := by
  unfold strOfNums strB
  rw [bytes_nums]
/-- The cells of words. -/
def flatW (ws : List Wd) : List Value := ws.flatMap fun x => [.int .i64 ((x.1 : Nat) : Int), .string (strB x.2)]
theorem flatW_len (ws : List Wd) : (flatW ws).length = ws.length * 2 := by
  induction ws with
  | nil => rfl
  | cons x l ih =>
    show ([_, _] ++ flatW l).length = _
    rw [List.length_append, ih, List.length_cons]
    simp
    omega
theorem flatW_get : ∀ (ws : List Wd) (i : Nat) (x : Wd), ws[i]? = some x → (flatW ws)[i * 2]? = some (.int .i64 ((x.1 : Nat) : Int)) ∧ (flatW ws)[i * 2 + 1]? = some (.string (strB x.2))
  | [], _, _, h => by simp at h
  | y :: l, 0, x, h => by
    simp at h; subst h; exact ⟨rfl, rfl⟩
  | y :: l, i + 1, x, h => by
    have ih := flatW_get l i x (by simpa using h)
    constructor
    · show ([_, _] ++ flatW l)[(i + 1) * 2]? = _
      rw [List.getElem?_append_right (by simp; omega), show (i + 1) * 2 - ([_, _] : List Value).length = i * 2 by simp; omega]
      exact ih.1
    · show ([_, _] ++ flatW l)[(i + 1) * 2 + 1]? = _
      rw [List.getElem?_append_right (by simp; omega), show (i + 1) * 2 + 1 - ([_, _] : List Value).length = i * 2 + 1 by simp; omega]
      exact ih.2
theorem flatW_snoc (ws : List Wd) (x : Wd) : flatW (ws ++ [x]) = flatW ws ++ [.int .i64 ((x.1 : Nat) : Int), .string (strB x.2)] := by simp [flatW]
theorem flatW_one (ws : List Wd) : ∀ u ∈ flatW ws, u.oneCell' = true := by
  intro u hu
  obtain ⟨x, _, hx⟩ := List.mem_flatMap.1 hu
  simp only [List.mem_cons, List.not_mem_nil, or_false] at hx
  rcases hx with h | h <;> rw [h] <;> rfl
/-- Words in memory. -/
def IsWords (w : World) (v : Value) (ws : List Wd) : Prop :=
  (v = .slice none 0 0 ∧ ws = []) ∨
  ∃ g cap, v = .slice (some ⟨g, 0, none⟩) ws.length cap ∧ ws.length ≤ cap ∧ cap ≤ maxLen ∧ ∀ i x, ws[i]? = some x → w.cell? ⟨g, i * 2, none⟩ = some (.int .i64 ((x.1 : Nat) : Int)) ∧ w.cell? ⟨g, i * 2 + 1, none⟩ = some (.string (strB x.2))
theorem IsWords.form {w : World} {v : Value} {ws : List Wd} (h : IsWords w v ws) : ∃ ao cap, v = .slice ao ws.length cap := by
  rcases h with ⟨rfl, rfl⟩ | ⟨g, cap, rfl, _⟩ <;> exact ⟨_, _, rfl⟩
theorem IsWords.full {w : World} {v : Value} {ws : List Wd} (h : IsWords w v ws) (hw : 0 < ws.length) : ∃ g cap, v = .slice (some ⟨g, 0, none⟩) ws.length cap ∧ ws.length ≤ cap ∧ cap ≤ maxLen ∧ g < w.heap.size ∧ ∀ i x, ws[i]? = some x → w.cell? ⟨g, i * 2, none⟩ = some (.int .i64 ((x.1 : Nat) : Int)) ∧ w.cell? ⟨g, i * 2 + 1, none⟩ = some (.string (strB x.2)) := by
  rcases h with ⟨rfl, rfl⟩ | ⟨g, cap, h1, h2, h3, h4⟩
  · simp at hw
  · exact ⟨g, cap, h1, h2, h3, World.block_lt_of_cell? w _ (h4 0 _ (List.getElem?_eq_getElem hw)).1, h4⟩
/-- Words stay where their block stays. -/
theorem IsWords.block {w w' : World} {v : Value} {ws : List Wd} (h : IsWords w v ws) (hb : ∀ b, v.ownBlock = some b → b < w.heap.size → w'.heap[b]? = w.heap[b]?) : IsWords w' v ws := by
  rcases h with h | ⟨g, cap, rfl, h2, h3, h4⟩
  · exact .inl h
  · refine .inr ⟨g, cap, rfl, h2, h3, fun i x hx => ?_⟩
    obtain ⟨k1, k2⟩ := h4 i x hx
    have hlt := World.block_lt_of_cell? w _ k1
    have e := hb g rfl hlt
    exact ⟨(World.cell?_of_block (a := ⟨g, i * 2, none⟩) e).trans k1, (World.cell?_of_block (a := ⟨g, i * 2 + 1, none⟩) e).trans k2⟩
theorem IsWords.keep {w w' : World} {v : Value} {ws : List Wd} (h : IsWords w v ws) (q : B w w') : IsWords w' v ws := h.block fun b _ hlt => q.below.block b hlt
theorem words_own {w : World} {base : Nat} {e : TypeId} {ao : Option Addr} {k c : Nat} {ws : List Wd} (h : w.ownsRow base e 2 (.slice ao k c) k (flatW ws)) (hl : ws.length = k) : IsWords w (.slice ao k c) ws := by
  have hh := h
  rcases hh.2 with ⟨h0, h1⟩ | ⟨g, cap, cur, hv, _, _, h1, h2, _⟩
  · refine .inl ⟨h0, ?_⟩
    simp only [Value.slice.injEq] at h0
    exact List.length_eq_zero_iff.1 (by omega)
  · simp only [Value.slice.injEq] at hv
    obtain ⟨rfl, _, rfl⟩ := hv
    subst hl
    refine .inr ⟨g, c, rfl, h1, h2, fun i x hx => ?_⟩
    have hi : i < ws.length := (List.getElem?_eq_some_iff.1 hx).1
    obtain ⟨k1, k2⟩ := flatW_get ws i x hx
    exact ⟨(h.cellAt (i * 2) (by omega)).trans k1, (h.cellAt (i * 2 + 1) (by omega)).trans k2⟩
/-- Lines of words, in a row that the call owns. -/
structure LinesO (w : World) (base : Nat) (e : TypeId) (v : Value) (LL : List (List Wd)) (vs : List Value) : Prop where
  own : w.ownsRow base e 1 v LL.length vs
  row : ∀ (j : Nat) u L, vs[j]? = some u → LL[j]? = some L → IsWords w u L ∧ ∃ b, u.ownBlock = some b ∧ v.ownBlock ≠ some b ∧ b < w.heap.size ∧ base ≤ b
theorem LinesO.nil (w : World) (base : Nat) (e : TypeId) : LinesO w base e (.slice none 0 0) [] [] := ⟨World.ownsRow_nil _ _ _ _, fun j u L h => by simp at h⟩
theorem lines_keep {w w' : World} {base : Nat} {e : TypeId} {v : Value} {LL : List (List Wd)} {vs : List Value} (h : LinesO w base e v LL vs) {row : Option Nat} (q : w.grownBy w' row)
    (hv : ∀ b, row = some b → v.ownBlock ≠ some b) (hs : ∀ b, row = some b → ∀ u ∈ vs, u.ownBlock ≠ some b) : LinesO w' base e v LL vs := by
  refine ⟨h.own.kept (row := row) q ?_, fun j u L hu hL => ?_⟩
  · cases hb : v.ownBlock with
    | none => exact .inl rfl
    | some b => exact .inr fun e => hv b e.symm hb
  · obtain ⟨h1, b, h2, h3, h4, h5⟩ := h.row j u L hu hL
    exact ⟨h1.block fun b' hb' hlt => q.block b' hlt (fun e => hs b' e.symm u (List.mem_of_getElem? hu) hb'), b, h2, h3, Nat.lt_of_lt_of_le h4 q.size, h5⟩
theorem B.none {w w' : World} (q : B w w') : w.grownBy w' none := ⟨q.below.os, q.below.tape, q.below.output, q.below.size, fun k hk _ => q.below.block k hk⟩
theorem row_keep {w w' : World} {base : Nat} {e : TypeId} {size n : Nat} {v : Value} {xs : List Value} (h : w.ownsRow base e size v n xs) (q : B w w') : w'.ownsRow base e size v n xs :=
  h.kept (row := none) q.none (by cases v.ownBlock <;> simp)
theorem addz (b j : Nat) : (⟨b, 0, none⟩ : Addr).add j = ⟨b, j, none⟩ := by unfold Addr.add; split <;> simp_all
/-- Cells of a new block. -/
theorem newest {w : World} {cs : Array Value} {t : TypeId} {H : Nat} (hH : w.heap.size = H) : ∀ j u, cs.toList[j]? = some u → (w.alloc (.cells cs t)).cell? ((⟨H, 0, none⟩ : Addr).add j) = some u := by
  intro j u h
  rw [addz]
  subst hH
  rw [World.cell?_alloc_new]
  simpa using h
theorem info_of {P : Program} {t : TypeId} {z : Value} {s b : Nat} (h : (P.info? t).map (fun i => (i.zero, i.size, i.bytes)) = some (some z, s, b)) : ∃ i, P.info? t = some i ∧ i.zero = some z ∧ i.size = s ∧ i.bytes = b := by
  cases hi : P.info? t with
  | none => rw [hi] at h; cases h
  | some i => rw [hi] at h; simp at h; exact ⟨i, rfl, h.1, h.2.1, h.2.2⟩
theorem LinesO.keep {w w' : World} {base : Nat} {e : TypeId} {v : Value} {LL : List (List Wd)} {vs : List Value} (h : LinesO w base e v LL vs) (q : B w w') : LinesO w' base e v LL vs :=
  lines_keep h q.none (fun b hb => by cases hb) (fun b hb => by cases hb)
theorem LinesO.len {w : World} {base : Nat} {e : TypeId} {v : Value} {LL : List (List Wd)} {vs : List Value} (h : LinesO w base e v LL vs) : vs.length = LL.length := by
  have := h.own.1
  omega
/-- A line more. -/
theorem lines_more {w1 w2 : World} {base : Nat} {e : TypeId} {v : Value} {LL : List (List Wd)} {vs : List Value} {g cap : Nat} {u : Value} {L : List Wd} (h : LinesO w1 base e v LL vs)
    (own : w2.ownsRow base e 1 (.slice (some ⟨g, 0, none⟩) (LL.length + 1) cap) (LL.length + 1) (vs ++ [u])) (q : w1.grownBy w2 v.ownBlock) (hat : v.ownBlock = some g ∨ g = w1.heap.size)
    (hu : IsWords w1 u L) {b : Nat} (hb : u.ownBlock = some b) (hvb : v.ownBlock ≠ some b) (hlt : b < w1.heap.size) (hbase : base ≤ b) :
    LinesO w2 base e (.slice (some ⟨g, 0, none⟩) (LL ++ [L]).length cap) (LL ++ [L]) (vs ++ [u]) := by
  have hlen := h.len
  have key : ∀ (u : Value) (L : List Wd), IsWords w1 u L → (∃ b, u.ownBlock = some b ∧ v.ownBlock ≠ some b ∧ b < w1.heap.size ∧ base ≤ b) → IsWords w2 u L ∧ ∃ b, u.ownBlock = some b ∧ (Value.slice (some ⟨g, 0, none⟩) (LL ++ [L]).length cap).ownBlock ≠ some b ∧ b < w2.heap.size ∧ base ≤ b := by
    intro u L hu ⟨b, hb, hvb, hlt, hba⟩
    refine ⟨hu.block fun b' hb' hlt' => q.block b' hlt' (fun e => ?_), b, hb, fun e => ?_, Nat.lt_of_lt_of_le hlt q.size, hba⟩
    · rw [hb] at hb'
      cases hb'
      exact hvb e.symm
    · have hg : g = b := Option.some.inj e
      rcases hat with hat | hat
      · exact hvb (hat.trans (congrArg some hg))
      · omega
  have elen : (LL ++ [L]).length = LL.length + 1 := by simp
  refine ⟨elen ▸ own, fun j x M hx hM => ?_⟩
  rcases Nat.lt_or_ge j LL.length with hj | hj
  · rw [List.getElem?_append_left (by omega)] at hx hM
    obtain ⟨h1, h2⟩ := h.row j x M hx hM
    have := key x M h1 h2
    exact this
  · have hj' : j = LL.length := by
      have := (List.getElem?_eq_some_iff.1 hM).1
      simp at this
      omega
    subst hj'
    rw [List.getElem?_append_right (by omega)] at hx hM
    simp only [Nat.sub_self, List.getElem?_cons_zero, Option.some.injEq] at hM
    rw [show LL.length - vs.length = 0 by omega] at hx
    simp only [List.getElem?_cons_zero, Option.some.injEq] at hx
    subst hx hM
    exact key _ _ hu ⟨b, hb, hvb, hlt, hbase⟩
/-- Lines of words in memory. -/
def IsLines (w : World) (v : Value) (LL : List (List Wd)) : Prop :=
  (v = .slice none 0 0 ∧ LL = []) ∨
  ∃ g cap, v = .slice (some ⟨g, 0, none⟩) LL.length cap ∧ LL.length ≤ cap ∧ cap ≤ maxLen ∧ ∀ i L, LL[i]? = some L → ∃ u, w.cell? ⟨g, i, none⟩ = some u ∧ IsWords w u L
theorem IsLines.keep {w w' : World} {v : Value} {LL : List (List Wd)} (h : IsLines w v LL) (q : B w w') : IsLines w' v LL := by
  rcases h with h | ⟨g, cap, h1, h2, h3, h4⟩
  · exact .inl h
  · exact .inr ⟨g, cap, h1, h2, h3, fun i L hL => by obtain ⟨u, k1, k2⟩ := h4 i L hL; exact ⟨u, q.keep k1, k2.keep q⟩⟩
theorem IsLines.form {w : World} {v : Value} {LL : List (List Wd)} (h : IsLines w v LL) : ∃ ao cap, v = .slice ao LL.length cap := by
  rcases h with ⟨rfl, rfl⟩ | ⟨g, cap, rfl, _⟩ <;> exact ⟨_, _, rfl⟩
theorem LinesO.is {w : World} {base : Nat} {e : TypeId} {v : Value} {LL : List (List Wd)} {vs : List Value} (h : LinesO w base e v LL vs) : IsLines w v LL := by
  have hown := h.own
  rcases hown.2 with ⟨h0, h1⟩ | ⟨g, cap, cur, rfl, _, _, h1, h2, _⟩
  · exact .inl ⟨h0, List.length_eq_zero_iff.1 (by omega)⟩
  · refine .inr ⟨g, cap, rfl, h1, h2, fun i L hL => ?_⟩
    have hi : i < LL.length := (List.getElem?_eq_some_iff.1 hL).1
    have hlen := h.len
    have hu : vs[i]? = some vs[i] := List.getElem?_eq_getElem (by omega)
    exact ⟨_, (hown.cellAt i (by omega)).trans hu, (h.row i _ L hu hL).1⟩
end Go.Proofs.YtflklpflpjdbmaaGreatDoor

namespace Go.Proofs.YtflklpflpjdbmaaGreatDoor
open Go.RowKit
/-- A ware, a tip: a name, three numbers, a shape. -/
abbrev Wr := Rec
/-- A fill: a well's ware, row, column; how much. -/
structure Fl where
  n : ByteArray
  r : Int
  c : Int
  v : Int
structure Dk where
  ws : List Wr
  ts : List Wr
  fs : List Fl
def dk0 : Dk := ⟨[], [], []⟩
/-- Is a name one of theirs? -/
def namedW (ws : List Wr) (n : ByteArray) : Bool := ws.any fun w => w.n.toList == n.toList
def filledW (fs : List Fl) (n : ByteArray) (r c : Int) : Bool := fs.any fun f => (f.n.toList == n.toList) && decide (f.r = r) && decide (f.c = c)
/-- The number of a well; none if it isn't there. -/
def indexW : List Wr → Int → ByteArray → Int → Int → Option Int
  | [], _, _, _, _ => none
  | w :: ws, k, n, r, c => if w.n.toList == n.toList then (if 0 ≤ r ∧ r < w.x ∧ 0 ≤ c ∧ c < w.y then some (k + (r * w.y + c)) else none) else indexW ws (k + w.x * w.y) n r c
def hasW (ws : List Wr) (n : ByteArray) (r c : Int) : Bool := (indexW ws 0 n r c).isSome
/-- Of a text: a well's name, row, column. -/
def wellL (l : List UInt8) : Option (List UInt8 × Nat × Nat) :=
  let n := l.takeWhile fun c => decide (c.toNat ≠ 46)
  match l.drop (n.length + 1) with
  | [] => none
  | r :: ds => if nameS (strB n) = true ∧ 65 ≤ r.toNat ∧ r.toNat ≤ 72 ∧ numOk (strB ds) = true ∧ 1 ≤ numV (strB ds) ∧ numV (strB ds) ≤ 12 then some (n, r.toNat - 65, numV (strB ds) - 1) else none
def kRound : List UInt8 := [114, 111, 117, 110, 100]
def kBox : List UInt8 := [98, 111, 120]
def kWare : List UInt8 := [119, 97, 114, 101]
def kTip : List UInt8 := [116, 105, 112]
def kFill : List UInt8 := [102, 105, 108, 108]
/-- Words as numbers; the place of one that is none. -/
def numsW : List Wd → Except Nat (List Nat)
  | [] => .ok []
  | x :: l => if numOk (strB x.2) then (match numsW l with | .ok ns => .ok (numV (strB x.2) :: ns) | .error p => .error p) else .error x.1
/-- A section of a line of words. -/
def secW (l : List Wd) : Except (Nat × Nat) Sec :=
  match l with
  | [] => .error (0, 24)
  | k :: l =>
    if l.length ≠ (if k.2 = kBox then 5 else 3) then .error (k.1, 24)
    else match numsW l with
      | .error p => .error (p, 20)
      | .ok [h, a0, a1] => .ok ⟨true, h, a0, 0, a1, 0⟩
      | .ok [h, a0, b0, a1, b1] => .ok ⟨false, h, a0, b0, a1, b1⟩
      | .ok _ => .error (k.1, 24)
/-- Three numbers, each up to its bound, two of them from one on. -/
def threeW (m0 m1 m2 : Nat) (a b c : Wd) : Except (Nat × Nat) (Nat × Nat × Nat) :=
  if numOk (strB a.2) = false ∨ m0 < numV (strB a.2) ∨ numV (strB a.2) < 1 then .error (a.1, 20)
  else if numOk (strB b.2) = false ∨ m1 < numV (strB b.2) ∨ numV (strB b.2) < 1 then .error (b.1, 20)
  else if numOk (strB c.2) = false ∨ m2 < numV (strB c.2) then .error (c.1, 20)
  else .ok (numV (strB a.2), numV (strB b.2), numV (strB c.2))
def recW (had : List Wr) (most m0 m1 m2 : Nat) (l : List Wd) : Except (Nat × Nat) Wr :=
  match l with
  | [k, n, a, b, c] =>
    if most ≤ had.length then .error (k.1, 27)
    else if nameS (strB n.2) = false ∨ namedW had (strB n.2) = true then .error (n.1, 25)
    else match threeW m0 m1 m2 a b c with
      | .error e => .error e
      | .ok (x, y, z) => .ok ⟨strB n.2, x, y, z, []⟩
  | k :: _ => .error (k.1, 24)
  | [] => .error (0, 24)
def fillW (d : Dk) (l : List Wd) : Except (Nat × Nat) Fl :=
  match l with
  | [_, p, v] =>
    match wellL p.2 with
    | none => .error (p.1, 26)
    | some (n, r, c) =>
      if hasW d.ws (strB n) r c = false ∨ filledW d.fs (strB n) r c = true then .error (p.1, 26)
      else if numOk (strB v.2) = false ∨ 20000000 < numV (strB v.2) then .error (v.1, 20)
      else .ok ⟨strB n, r, c, numV (strB v.2)⟩
  | k :: _ => .error (k.1, 24)
  | [] => .error (0, 24)
/-- A section more: of the last ware, of the last tip. -/
def moreR (w : Wr) (s : Sec) : Wr := { w with l := w.l ++ [s] }
def moreW : List Wr → Sec → List Wr
  | [], _ => []
  | [w], s => [moreR w s]
  | w :: ws, s => w :: moreW ws s
def lastL : List Wr → List Sec
  | [] => []
  | [w] => w.l
  | _ :: ws => lastL ws
/-- Is the shape of what is open right? (0: nothing is, 1: a ware, 2: a tip) -/
def wholeD (d : Dk) (o : Nat) : Bool := if o = 1 then rightS (lastL d.ws) else if o = 2 then rightS (lastL d.ts) else true
def Dk.add (d : Dk) (o : Nat) (s : Sec) : Dk := if o = 1 then { d with ws := moreW d.ws s } else if o = 2 then { d with ts := moreW d.ts s } else d
/-- The deck of lines of words, what stands behind; or the place and the number of what is wrong. -/
def parseD : List (List Wd) → Dk → Nat → Nat → Dk × List (List Wd) × Nat × Nat
  | [], d, o, f => if wholeD d o then (d, [], 0, 0) else (dk0, [], f, 23)
  | [] :: L, d, o, f => parseD L d o f
  | (k :: x) :: L, d, o, f =>
    if k.2 = kRound ∨ k.2 = kBox then
      if o = 0 then (dk0, [], k.1, 24)
      else match secW (k :: x) with
        | .error e => (dk0, [], e.1, e.2)
        | .ok s => parseD L (d.add o s) o f
    else if wholeD d o = false then (dk0, [], f, 23)
    else if k.2 = kWare then
      match recW d.ws 8 8 12 1000000 (k :: x) with
      | .error e => (dk0, [], e.1, e.2)
      | .ok w => parseD L { d with ws := d.ws ++ [w] } 1 k.1
    else if k.2 = kTip then
      match recW d.ts 4 20000000 60000 10000 (k :: x) with
      | .error e => (dk0, [], e.1, e.2)
      | .ok t => parseD L { d with ts := d.ts ++ [t] } 2 k.1
    else if k.2 = kFill then
      match fillW d (k :: x) with
      | .error e => (dk0, [], e.1, e.2)
      | .ok v => parseD L { d with fs := d.fs ++ [v] } 0 k.1
    else (d, (k :: x) :: L, 0, 0)
/-- Which decks may be. -/
def wareOk (w : Wr) : Bool := nameS w.n && inB w.x 1 8 && inB w.y 1 12 && inB w.z 0 1000000 && rightS w.l
def tipOk (t : Wr) : Bool := nameS t.n && rightS t.l && inB t.x 1 20000000 && inB t.y 1 60000 && inB t.z 0 10000
def apartW (ok : Wr → Bool) (ws : List Wr) : Bool := (List.range ws.length).all fun i => match ws[i]? with
  | some w => ok w && !namedW (ws.take i) w.n
  | none => true
def fillsOk (ws : List Wr) (fs : List Fl) : Bool := (List.range fs.length).all fun i => match fs[i]? with
  | some f => hasW ws f.n f.r f.c && inB f.v 0 20000000 && !filledW (fs.take i) f.n f.r f.c
  | none => true
def rightD (d : Dk) : Bool := decide (d.ws.length ≤ 8) && decide (d.ts.length ≤ 4) && apartW wareOk d.ws && apartW tipOk d.ts && fillsOk d.ws d.fs
/-- A number's digits. -/
def decI (x : Int) : List UInt8 := Lib.decDigits x.toNat
/-- A well's text. -/
def wellT (n : ByteArray) (r c : Int) : List UInt8 := if nameS n = true ∧ 0 ≤ r ∧ r < 8 ∧ 0 ≤ c ∧ c < 12 then n.data.toList ++ [46, UInt8.ofNat (65 + r.toNat)] ++ decI (c + 1) else []
/-- The words of a deck, line by line. -/
def secL (s : Sec) : List (List UInt8) := if s.r then [kRound, decI s.h, decI s.a0, decI s.a1] else [kBox, decI s.h, decI s.a0, decI s.b0, decI s.a1, decI s.b1]
def recL (k : List UInt8) (w : Wr) : List (List (List UInt8)) := [k, w.n.data.toList, decI w.x, decI w.y, decI w.z] :: w.l.map secL
def fillL (f : Fl) : List (List UInt8) := [kFill, wellT f.n f.r f.c, decI f.v]
def deckL (d : Dk) : List (List (List UInt8)) := d.ws.flatMap (recL kWare) ++ d.ts.flatMap (recL kTip) ++ d.fs.map fillL
/-- A line's text: words with one blank between, a line feed behind. -/
def lineT : List (List UInt8) → List UInt8
  | [] => [10]
  | [w] => w ++ [10]
  | w :: ws => w ++ 32 :: lineT ws
def textD (d : Dk) : List UInt8 := if rightD d then (deckL d).flatMap lineT else []
end Go.Proofs.YtflklpflpjdbmaaGreatDoor

namespace Go.Proofs.YtflklpflpjdbmaaGreatDoor
open Go.RowKit
structure FlAt (w : World) (p : Addr) (f : Fl) : Prop where
  n : w.cell? p = some (.string f.n)
  r : w.cell? ⟨p.block, p.off + 1, none⟩ = some (.int .i64 f.r)
  c : w.cell? ⟨p.block, p.off + 2, none⟩ = some (.int .i64 f.c)
  v : w.cell? ⟨p.block, p.off + 3, none⟩ = some (.int .i64 f.v)
theorem FlAt.keepB {w w' : World} {p : Addr} {f : Fl} (h : FlAt w p f) (q : B w w') : FlAt w' p f := ⟨q.keep h.n, q.keep h.r, q.keep h.c, q.keep h.v⟩
def IsFls (w : World) (v : Value) (L : List Fl) : Prop :=
  (v = .slice none 0 0 ∧ L = []) ∨
  ∃ (a : Addr) (cap : Nat), v = .slice (some a) L.length cap ∧ L.length ≤ cap ∧ cap ≤ maxLen ∧ ∀ i f, L[i]? = some f → FlAt w (a.add (i * 4)) f
theorem IsFls.keepB {w w' : World} {v : Value} {L : List Fl} (h : IsFls w v L) (q : B w w') : IsFls w' v L := by
  rcases h with h | ⟨a, cap, h1, h2, h3, h4⟩
  · exact .inl h
  · exact .inr ⟨a, cap, h1, h2, h3, fun i f hf => (h4 i f hf).keepB q⟩
theorem IsFls.form {w : World} {v : Value} {L : List Fl} (h : IsFls w v L) : ∃ ao cap, v = .slice ao L.length cap := by
  rcases h with ⟨rfl, rfl⟩ | ⟨a, cap, rfl, _⟩
  · exact ⟨_, _, rfl⟩
  · exact ⟨_, _, rfl⟩
theorem IsFls.at_ {w : World} {v : Value} {L : List Fl} (h : IsFls w v L) {i : Nat} (hi : i < L.length) : ∃ (a : Addr) (cap : Nat), v = .slice (some a) L.length cap ∧ L.length ≤ cap ∧ cap ≤ maxLen ∧ FlAt w (a.add (i * 4)) L[i] := by
  rcases h with ⟨_, rfl⟩ | ⟨a, cap, h1, h2, h3, h4⟩
  · simp at hi
  · exact ⟨a, cap, h1, h2, h3, h4 i _ (List.getElem?_eq_getElem hi)⟩
/-- A deck in memory: its three slices. -/
structure IsDk (w : World) (wv tv fv : Value) (d : Dk) : Prop where
  ws : IsRecs w wv d.ws
  ts : IsRecs w tv d.ts
  fs : IsFls w fv d.fs
theorem IsDk.keepB {w w' : World} {wv tv fv : Value} {d : Dk} (h : IsDk w wv tv fv d) (q : B w w') : IsDk w' wv tv fv d := ⟨h.ws.keepB q, h.ts.keepB q, h.fs.keepB q⟩
theorem len_max {n : Nat} {cap : Nat} (h : n ≤ cap) (h2 : cap ≤ maxLen) : n ≤ 9223372036854775807 := by unfold maxLen at h2; omega
theorem IsRecs.len {w : World} {v : Value} {L : List Rec} (h : IsRecs w v L) : L.length ≤ 9223372036854775807 := by
  rcases h with ⟨_, rfl⟩ | ⟨a, cap, _, h2, h3, _⟩
  · simp
  · exact len_max h2 h3
theorem IsFls.len {w : World} {v : Value} {L : List Fl} (h : IsFls w v L) : L.length ≤ 9223372036854775807 := by
  rcases h with ⟨_, rfl⟩ | ⟨a, cap, _, h2, h3, _⟩
  · simp
  · exact len_max h2 h3
theorem secs_form {w : World} {v : Value} {l : List Sec} (h : IsSecs w v l) : ∃ ao cap, v = .slice ao l.length cap := by
  rcases h with ⟨rfl, rfl⟩ | ⟨a, cap, rfl, _⟩
  · exact ⟨_, _, rfl⟩
  · exact ⟨_, _, rfl⟩
end Go.Proofs.YtflklpflpjdbmaaGreatDoor

namespace Go.Proofs.YtflklpflpjdbmaaGreatDoor
open Go.RowKit
theorem secs_own {w : World} {base : Nat} {e : TypeId} {ao : Option Addr} {k c : Nat} {l : List Sec} (h : w.ownsRow base e 6 (.slice ao k c) k (flat l)) (hl : l.length = k) (hk : 0 < k) (hI : ∀ s ∈ l, s.I) : IsSecs w (.slice ao k c) l := by
  have hh := h
  rcases hh.2 with ⟨_, h0⟩ | ⟨g, cap, cur, hv, _, _, h1, h2, _⟩
  · omega
  · simp only [Value.slice.injEq] at hv
    obtain ⟨rfl, _, rfl⟩ := hv
    subst hl
    exact isSecs_cells hI h1 h2 (fun j u hj => by have := h.cells (g := g) rfl j u hj; rwa [add0] at this)
theorem u8_wf {k : Int} (w : (Lit.int .u8 k).wf = true) : 0 ≤ k ∧ k ≤ 255 := by
  simp [Lit.wf, IntKind.min, IntKind.max, IntKind.signed, IntKind.bits] at w
  omega
theorem IsSecs.form {w : World} {v : Value} {l : List Sec} (h : IsSecs w v l) : ∃ ao n cap, v = .slice ao n cap := by
  rcases h with ⟨rfl, rfl⟩ | ⟨a, cap, rfl, _⟩
  · exact ⟨_, _, _, rfl⟩
  · exact ⟨_, _, _, rfl⟩
theorem news_plain {w : World} {cs : Array Value} {t : TypeId} {H : Nat} (hH : w.heap.size = H) : ∀ j u, cs.toList[j]? = some u → (w.alloc (.cells cs t)).cell? ((⟨H, 0, none⟩ : Addr).add j) = some u := by
  intro j u h
  rw [add0]
  subst hH
  rw [World.cell?_alloc_new]
  simpa using h
theorem flat_snoc (l : List Sec) (s : Sec) : flat (l ++ [s]) = flat l ++ s.cells := by simp [flat]
/-- Two right shapes stand in a block. -/
def TwoS (w : World) (b : Nat) : Prop := ∀ m : Nat, m < 2 → ∃ v l, w.cell? ⟨b, m, none⟩ = some v ∧ IsSecs w v l ∧ rightS l = true
theorem TwoS.keep {w w' : World} {b : Nat} (h : TwoS w b) (q : B w w') : TwoS w' b := fun m hm => by
  obtain ⟨v, l, h1, h2, h3⟩ := h m hm
  exact ⟨v, l, q.keep h1, h2.keepB q, h3⟩
end Go.Proofs.YtflklpflpjdbmaaGreatDoor

namespace Go.Proofs.YtflklpflpjdbmaaGreatDoor
open Go.RowKit
set_option linter.unusedVariables false
def Fl.cells (f : Fl) : List Value := [.string f.n, .int .i64 f.r, .int .i64 f.c, .int .i64 f.v]
def flatF (L : List Fl) : List Value := L.flatMap Fl.cells
theorem flatF_get : ∀ (L : List Fl) (i j : Nat) (r : Fl), L[i]? = some r → j < 4 → (flatF L)[i * 4 + j]? = r.cells[j]?
  | [], _, _, _, h, _ => by simp at h
  | r :: L, 0, j, r', h, hj => by
    simp at h
    subst h
    rw [Nat.zero_mul, Nat.zero_add]
    show (r.cells ++ flatF L)[j]? = _
    rw [List.getElem?_append_left (by simpa [Fl.cells] using hj)]
  | r :: L, i + 1, j, r', h, hj => by
    show (r.cells ++ flatF L)[(i + 1) * 4 + j]? = _
    rw [List.getElem?_append_right (by simp [Fl.cells]; omega), show (i + 1) * 4 + j - r.cells.length = i * 4 + j by simp [Fl.cells]; omega]
    exact flatF_get L i j r' (by simpa using h) hj
theorem flatF_snoc (L : List Fl) (f : Fl) : flatF (L ++ [f]) = flatF L ++ f.cells := by simp [flatF]
theorem flatR_snoc : ∀ (L : List Rec) (vs : List Value) (r : Rec) (v : Value), L.length = vs.length → flatR (L ++ [r]) (vs ++ [v]) = flatR L vs ++ r.cells v
  | [], [], r, v, _ => by simp [flatR]
  | [], _ :: _, _, _, h => by simp at h
  | _ :: _, [], _, _, h => by simp at h
  | x :: L, u :: vs, r, v, h => by
    show x.cells u ++ flatR (L ++ [r]) (vs ++ [v]) = (x.cells u ++ flatR L vs) ++ _
    rw [flatR_snoc L vs r v (by simpa using h), List.append_assoc]
theorem moreW_snoc : ∀ (L : List Wr) (r : Wr) (s : Sec), moreW (L ++ [r]) s = L ++ [moreR r s]
  | [], _, _ => rfl
  | [_], _, _ => rfl
  | x :: y :: L, r, s => by
    show x :: moreW ((y :: L) ++ [r]) s = _
    rw [moreW_snoc (y :: L) r s]
    rfl
def ownL (ss tt : List Value) : Bool × Nat → Option Nat
  | (true, i) => (ss[i]?).bind Value.ownBlock
  | (false, i) => (tt[i]?).bind Value.ownBlock
structure Rows (w : World) (base : Nat) (wv tv fv : Value) (d : Dk) (ss tt : List Value) : Prop where
  ws : w.ownsRow base 33 5 wv d.ws.length (flatR d.ws ss)
  ts : w.ownsRow base 35 5 tv d.ts.length (flatR d.ts tt)
  fs : w.ownsRow base 41 4 fv d.fs.length (flatF d.fs)
  sl : ss.length = d.ws.length
  tl : tt.length = d.ts.length
  sh : ∀ (i : Nat) r v, d.ws[i]? = some r → ss[i]? = some v → w.ownsRow base 37 6 v r.l.length (flat r.l)
  th : ∀ (i : Nat) r v, d.ts[i]? = some r → tt[i]? = some v → w.ownsRow base 37 6 v r.l.length (flat r.l)
  wi : ∀ r ∈ d.ws, ∀ s ∈ r.l, s.I
  ti : ∀ r ∈ d.ts, ∀ s ∈ r.l, s.I
  apart : ∀ x y k, ownL ss tt x = some k → ownL ss tt y = some k → x = y
theorem Rows.start (w : World) (base : Nat) : Rows w base (.slice none 0 0) (.slice none 0 0) (.slice none 0 0) dk0 [] [] :=
  ⟨World.ownsRow_nil _ _ _ _, World.ownsRow_nil _ _ _ _, World.ownsRow_nil _ _ _ _, rfl, rfl, fun i r v h => by simp [dk0] at h, fun i r v h => by simp [dk0] at h, fun r h => by simp [dk0] at h, fun r h => by simp [dk0] at h,
    fun x y k h => by obtain ⟨b, i⟩ := x; cases b <;> simp [ownL] at h⟩
theorem isSecs_own {w : World} {base : Nat} {e : TypeId} {v : Value} {l : List Sec} (h : w.ownsRow base e 6 v l.length (flat l)) (hI : ∀ s ∈ l, s.I) : IsSecs w v l := by
  rcases Nat.eq_zero_or_pos l.length with h0 | h0
  · obtain rfl : l = [] := List.length_eq_zero_iff.1 h0
    rcases h.2 with ⟨rfl, _⟩ | ⟨g, cap, cur, rfl, _, _, h1, h2, _⟩
    · exact .inl ⟨rfl, rfl⟩
    · exact .inr ⟨_, cap, rfl, h1, h2, fun i s hs => by simp at hs⟩
  · rcases h.2 with ⟨_, h1⟩ | ⟨g, cap, cur, rfl, h1⟩
    · omega
    · exact secs_own h rfl h0 hI
theorem isRecs_own {w : World} {base : Nat} {e : TypeId} {v : Value} {L : List Rec} {vs : List Value} (h : w.ownsRow base e 5 v L.length (flatR L vs)) (hv : L.length = vs.length) (hs : ∀ (i : Nat) (r : Rec) (v : Value), L[i]? = some r → vs[i]? = some v → IsSecs w v r.l) : IsRecs w v L := by
  have hh := h
  rcases hh.2 with ⟨rfl, h0⟩ | ⟨g, cap, cur, rfl, _, _, h1, h2, _⟩
  · exact .inl ⟨rfl, List.length_eq_zero_iff.1 h0⟩
  · exact recs_cells hv h1 h2 (fun j u hj => by have := h.cells rfl j u hj; rwa [add0] at this) hs
theorem isFls_own {w : World} {base : Nat} {e : TypeId} {v : Value} {L : List Fl} (h : w.ownsRow base e 4 v L.length (flatF L)) : IsFls w v L := by
  have hh := h
  rcases hh.2 with ⟨rfl, h0⟩ | ⟨g, cap, cur, rfl, _, _, h1, h2, _⟩
  · exact .inl ⟨rfl, List.length_eq_zero_iff.1 h0⟩
  · refine .inr ⟨_, cap, rfl, h1, h2, fun i f hf => ?_⟩
    have hc := fun j u hj => h.cells (g := g) rfl j u hj
    have k := fun j (hj : j < 4) u (hu : f.cells[j]? = some u) => hc (i * 4 + j) u ((flatF_get L i j f hf hj).trans hu)
    simp only [add0] at k
    rw [add0]
    exact ⟨k 0 (by omega) _ rfl, k 1 (by omega) _ rfl, k 2 (by omega) _ rfl, k 3 (by omega) _ rfl⟩
section
variable {w w' : World} {base : Nat} {wv tv fv : Value} {d : Dk} {ss tt : List Value}
theorem Rows.dk (h : Rows w base wv tv fv d ss tt) : IsDk w wv tv fv d :=
  ⟨isRecs_own h.ws h.sl.symm (fun i r v hr hv => isSecs_own (h.sh i r v hr hv) (h.wi r (List.mem_of_getElem? hr))),
    isRecs_own h.ts h.tl.symm (fun i r v hr hv => isSecs_own (h.th i r v hr hv) (h.ti r (List.mem_of_getElem? hr))), isFls_own h.fs⟩
/-- All stays where no block of these kinds turns. -/
theorem Rows.keep (h : Rows w base wv tv fv d ss tt) (hk : ∀ i, base ≤ i → ∀ cs e, (e = 33 ∨ e = 35 ∨ e = 41 ∨ e = 37) → w.heap[i]? = some (.cells cs e (0, 0)) → w'.heap[i]? = w.heap[i]?) : Rows w' base wv tv fv d ss tt := by
  have own : ∀ {e size n : Nat} {v : Value} {xs : List Value}, (e = 33 ∨ e = 35 ∨ e = 41 ∨ e = 37) → w.ownsRow base e size v n xs → w'.ownsRow base e size v n xs := fun {e size n v xs} he h => by
    refine ⟨h.1, ?_⟩
    rcases h.2 with hn | ⟨g, cap, cur, rfl, hb, hg, rest⟩
    · exact .inl hn
    · exact .inr ⟨g, cap, cur, rfl, hb, (hk g hb cur e he hg).trans hg, rest⟩
  exact ⟨own (by simp) h.ws, own (by simp) h.ts, own (by simp) h.fs, h.sl, h.tl, fun i r v h1 h2 => own (by simp) (h.sh i r v h1 h2), fun i r v h1 h2 => own (by simp) (h.th i r v h1 h2), h.wi, h.ti, h.apart⟩
theorem Rows.tn {K : List (Option TypeId)} {b : Nat} (h : Rows w base wv tv fv d ss tt) (t : Tn K b w w') (h1 : some 33 ∉ K) (h2 : some 35 ∉ K) (h3 : some 41 ∉ K) (h4 : some 37 ∉ K) : Rows w' base wv tv fv d ss tt :=
  h.keep fun i _ cs e he ho => by rcases he with rfl | rfl | rfl | rfl <;> exact (t.objc ho (by assumption)).trans ho.symm
theorem Rows.b (h : Rows w base wv tv fv d ss tt) (q : B w w') : Rows w' base wv tv fv d ss tt :=
  h.keep fun i _ cs e he ho => q.below.block i (obj_lt ho)
theorem nodup_nil {x : Bool × Nat} {k : Nat} : ownL (ss ++ [.slice none 0 0]) tt x = some k → ownL ss tt x = some k := by
  obtain ⟨b, i⟩ := x
  cases b
  · exact id
  · simp only [ownL]
    intro h
    rcases Nat.lt_trichotomy i ss.length with hi | hi | hi
    · rwa [List.getElem?_append_left hi] at h
    · subst hi
      rw [List.getElem?_append_right (Nat.le_refl _)] at h
      simp [Value.ownBlock] at h
    · rw [List.getElem?_eq_none (by simp; omega)] at h
      cases h
theorem nodup_nilT {x : Bool × Nat} {k : Nat} : ownL ss (tt ++ [.slice none 0 0]) x = some k → ownL ss tt x = some k := by
  obtain ⟨b, i⟩ := x
  cases b
  · simp only [ownL]
    intro h
    rcases Nat.lt_trichotomy i tt.length with hi | hi | hi
    · rwa [List.getElem?_append_left hi] at h
    · subst hi
      rw [List.getElem?_append_right (Nat.le_refl _)] at h
      simp [Value.ownBlock] at h
    · rw [List.getElem?_eq_none (by simp; omega)] at h
      cases h
  · exact id
theorem Rows.addW (h : Rows w base wv tv fv d ss tt) {wv' : Value} {r : Wr} (hr : r.l = []) (hg : w.grownBy w' wv.ownBlock) (ho : w'.ownsRow base 33 5 wv' (d.ws.length + 1) (flatR d.ws ss ++ r.cells (.slice none 0 0))) :
    Rows w' base wv' tv fv { d with ws := d.ws ++ [r] } (ss ++ [.slice none 0 0]) tt := by
  refine ⟨?_, h.ts.kept hg (rows_apart h.ts h.ws (by decide)), h.fs.kept hg (rows_apart h.fs h.ws (by decide)), by simp [h.sl], h.tl, fun i x v hx hv => ?_, fun i x v hx hv => (h.th i x v hx hv).kept hg (rows_apart (h.th i x v hx hv) h.ws (by decide)), fun x hx => ?_, h.ti, fun x y k hx hy => h.apart x y k (nodup_nil hx) (nodup_nil hy)⟩
  · rw [flatR_snoc _ _ _ _ h.sl.symm]
    simpa using ho
  · simp only at hx
    rcases Nat.lt_trichotomy i d.ws.length with hi | hi | hi
    · rw [List.getElem?_append_left hi] at hx
      rw [List.getElem?_append_left (by rw [h.sl]; exact hi)] at hv
      exact (h.sh i x v hx hv).kept hg (rows_apart (h.sh i x v hx hv) h.ws (by decide))
    · subst hi
      rw [List.getElem?_append_right (Nat.le_refl _)] at hx
      rw [List.getElem?_append_right (by rw [h.sl]; exact Nat.le_refl _), h.sl] at hv
      simp at hx hv
      subst hx hv
      rw [hr]
      exact World.ownsRow_nil _ _ _ _
    · rw [List.getElem?_eq_none (by simp; omega)] at hx
      cases hx
  · rcases List.mem_append.1 hx with hx | hx
    · exact h.wi x hx
    · obtain rfl := List.mem_singleton.1 hx
      rw [hr]
      simp
theorem Rows.addT (h : Rows w base wv tv fv d ss tt) {tv' : Value} {r : Wr} (hr : r.l = []) (hg : w.grownBy w' tv.ownBlock) (ho : w'.ownsRow base 35 5 tv' (d.ts.length + 1) (flatR d.ts tt ++ r.cells (.slice none 0 0))) :
    Rows w' base wv tv' fv { d with ts := d.ts ++ [r] } ss (tt ++ [.slice none 0 0]) := by
  refine ⟨h.ws.kept hg (rows_apart h.ws h.ts (by decide)), ?_, h.fs.kept hg (rows_apart h.fs h.ts (by decide)), h.sl, by simp [h.tl], fun i x v hx hv => (h.sh i x v hx hv).kept hg (rows_apart (h.sh i x v hx hv) h.ts (by decide)), fun i x v hx hv => ?_, h.wi, fun x hx => ?_, fun x y k hx hy => h.apart x y k (nodup_nilT hx) (nodup_nilT hy)⟩
  · rw [flatR_snoc _ _ _ _ h.tl.symm]
    simpa using ho
  · simp only at hx
    rcases Nat.lt_trichotomy i d.ts.length with hi | hi | hi
    · rw [List.getElem?_append_left hi] at hx
      rw [List.getElem?_append_left (by rw [h.tl]; exact hi)] at hv
      exact (h.th i x v hx hv).kept hg (rows_apart (h.th i x v hx hv) h.ts (by decide))
    · subst hi
      rw [List.getElem?_append_right (Nat.le_refl _)] at hx
      rw [List.getElem?_append_right (by rw [h.tl]; exact Nat.le_refl _), h.tl] at hv
      simp at hx hv
      subst hx hv
      rw [hr]
      exact World.ownsRow_nil _ _ _ _
    · rw [List.getElem?_eq_none (by simp; omega)] at hx
      cases hx
  · rcases List.mem_append.1 hx with hx | hx
    · exact h.ti x hx
    · obtain rfl := List.mem_singleton.1 hx
      rw [hr]
      simp
theorem Rows.addF (h : Rows w base wv tv fv d ss tt) {fv' : Value} {f : Fl} (hg : w.grownBy w' fv.ownBlock) (ho : w'.ownsRow base 41 4 fv' (d.fs.length + 1) (flatF d.fs ++ f.cells)) :
    Rows w' base wv tv fv' { d with fs := d.fs ++ [f] } ss tt := by
  refine ⟨h.ws.kept hg (rows_apart h.ws h.fs (by decide)), h.ts.kept hg (rows_apart h.ts h.fs (by decide)), ?_, h.sl, h.tl, fun i x v hx hv => (h.sh i x v hx hv).kept hg (rows_apart (h.sh i x v hx hv) h.fs (by decide)), fun i x v hx hv => (h.th i x v hx hv).kept hg (rows_apart (h.th i x v hx hv) h.fs (by decide)), h.wi, h.ti, h.apart⟩
  rw [flatF_snoc]
  simpa using ho
theorem Rows.old (h : Rows w base wv tv fv d ss tt) {x : Bool × Nat} {k : Nat} (hx : ownL ss tt x = some k) : k < w.heap.size := by
  obtain ⟨b, i⟩ := x
  cases b
  · simp only [ownL] at hx
    cases hv : tt[i]? with
    | none => rw [hv] at hx; cases hx
    | some v =>
      rw [hv] at hx
      have hi : i < d.ts.length := by rw [← h.tl]; exact (List.getElem?_eq_some_iff.1 hv).1
      exact ((h.th i _ v (List.getElem?_eq_getElem hi) hv).lt k hx).2
  · simp only [ownL] at hx
    cases hv : ss[i]? with
    | none => rw [hv] at hx; cases hx
    | some v =>
      rw [hv] at hx
      have hi : i < d.ws.length := by rw [← h.sl]; exact (List.getElem?_eq_some_iff.1 hv).1
      exact ((h.sh i _ v (List.getElem?_eq_getElem hi) hv).lt k hx).2
theorem apart_turn {f f' : Bool × Nat → Option Nat} {x0 : Bool × Nat} {g : Nat} (h : ∀ x y k, f x = some k → f y = some k → x = y) (h0 : f' x0 = some g) (hne : ∀ x, x ≠ x0 → f' x = f x) (hg : f x0 = some g ∨ ∀ x k, f x = some k → k ≠ g) :
    ∀ x y k, f' x = some k → f' y = some k → x = y := by
  intro x y k hx hy
  have key : ∀ z, z ≠ x0 → f' z = some g → False := fun z hz hzg => by
    rw [hne z hz] at hzg
    rcases hg with hg | hg
    · exact hz (h z x0 g hzg hg)
    · exact hg z g hzg rfl
  by_cases h1 : x = x0
  · by_cases h2 : y = x0
    · rw [h1, h2]
    · subst h1
      rw [h0] at hx
      cases hx
      exact (key y h2 hy).elim
  · by_cases h2 : y = x0
    · subst h2
      rw [h0] at hy
      cases hy
      exact (key x h1 hx).elim
    · rw [hne x h1] at hx
      rw [hne y h2] at hy
      exact h x y k hx hy
theorem flatR_last (ws0 : List Wr) (ss0 : List Value) (r : Wr) (s : Sec) (v v' : Value) (h : ws0.length = ss0.length) : (flatR (ws0 ++ [r]) (ss0 ++ [v])).set (ws0.length * 5 + 4) v' = flatR (ws0 ++ [moreR r s]) (ss0 ++ [v']) := by
  rw [flatR_snoc _ _ _ _ h, flatR_snoc _ _ _ _ h, List.set_append_right _ _ (by rw [flatR_len _ _ h]; omega), flatR_len _ _ h, Nat.add_sub_cancel_left]
  rfl
theorem Rows.addSW {w1 : World} {ws0 : List Wr} {r : Wr} {ts : List Wr} {fs : List Fl} {ss0 : List Value} {v v' : Value} {gW g cap : Nat} {s : Sec} (h : Rows w base (.slice (some ⟨gW, 0, none⟩) (ws0.length + 1) cap) tv fv ⟨ws0 ++ [r], ts, fs⟩ (ss0 ++ [v]) tt) (hs : s.I)
    (hg : w.grownBy w1 v.ownBlock) (ho : w1.ownsRow base 37 6 v' (r.l.length + 1) (flat r.l ++ s.cells)) (hv' : v'.ownBlock = some g) (hgg : v.ownBlock = some g ∨ g = w.heap.size) :
    Rows (w1.setCell ⟨gW, ws0.length * 5 + 4, none⟩ v') base (.slice (some ⟨gW, 0, none⟩) (ws0.length + 1) cap) tv fv ⟨ws0 ++ [moreR r s], ts, fs⟩ (ss0 ++ [v']) tt := by
  have hsl : ss0.length = ws0.length := by have := h.sl; simpa using this
  have hS : w.ownsRow base 37 6 v r.l.length (flat r.l) := h.sh ws0.length r v (by simp) (by rw [← hsl]; simp)
  have h1 := h.ws.kept hg (rows_apart h.ws hS (by decide))
  have h1' : w1.ownsRow base 33 5 (.slice (some ⟨gW, 0, none⟩) (ws0.length + 1) cap) (ws0.length + 1) (flatR (ws0 ++ [r]) (ss0 ++ [v])) := by simpa using h1
  obtain ⟨h2, g2⟩ := h1'.stored (ws0.length * 5 + 4) v'
  rw [flatR_last ws0 ss0 r s v v' hsl.symm] at h2
  have o1 : ∀ {e size n : Nat} {u : Value} {xs : List Value}, e ≠ 33 → w1.ownsRow base e size u n xs → (w1.setCell ⟨gW, ws0.length * 5 + 4, none⟩ v').ownsRow base e size u n xs := fun {e size n u xs} he hu => by
    refine hu.kept g2 ?_
    rcases rows_apart hu h1' he with h3 | h3
    · exact .inl h3
    · exact .inr h3
  have lastL : ∀ (i : Nat), i ≠ ws0.length → ∀ u, (ss0 ++ [v'])[i]? = some u → (ss0 ++ [v])[i]? = some u := fun i hi u hu => by
    rcases Nat.lt_or_ge i ss0.length with hl | hl
    · rw [List.getElem?_append_left hl] at hu ⊢
      exact hu
    · rw [List.getElem?_eq_none (by simp; omega)] at hu
      cases hu
  have own2 : ∀ x, x ≠ ((true, ws0.length) : Bool × Nat) → ownL (ss0 ++ [v']) tt x = ownL (ss0 ++ [v]) tt x := fun x hx => by
    obtain ⟨b, i⟩ := x
    cases b
    · rfl
    · have hi : i ≠ ws0.length := fun e => hx (by rw [e])
      simp only [ownL]
      rcases Nat.lt_or_ge i ss0.length with hl | hl
      · rw [List.getElem?_append_left hl, List.getElem?_append_left hl]
      · rw [List.getElem?_eq_none (by simp; omega), List.getElem?_eq_none (by simp; omega)]
  have hv0 : ownL (ss0 ++ [v]) tt (true, ws0.length) = v.ownBlock := by simp [ownL, ← hsl]
  have far : ∀ (x : Bool × Nat) (k : Nat) (u : Value), ownL (ss0 ++ [v]) tt x = some k → x ≠ (true, ws0.length) → u.ownBlock = some k → u.ownBlock ≠ v.ownBlock := fun x k u hx hne hu e => by
    rw [hu] at e
    exact hne (h.apart x _ k hx (hv0.trans e.symm))
  have keep : ∀ (x : Bool × Nat) (u : Value) {n : Nat} {xs : List Value}, x ≠ (true, ws0.length) → ownL (ss0 ++ [v]) tt x = u.ownBlock → w.ownsRow base 37 6 u n xs → (w1.setCell ⟨gW, ws0.length * 5 + 4, none⟩ v').ownsRow base 37 6 u n xs := fun x u {n xs} hx hu ho => by
    refine o1 (by decide) (ho.kept hg ?_)
    cases hb : u.ownBlock with
    | none => exact .inl rfl
    | some k => exact .inr (hb ▸ far x k u (hu.trans hb) hx hb)
  refine ⟨by simpa using h2, o1 (by decide) (h.ts.kept hg (rows_apart h.ts hS (by decide))), o1 (by decide) (h.fs.kept hg (rows_apart h.fs hS (by decide))), by simp [hsl], h.tl, fun i x u hx hu => ?_, fun i x u hx hu => keep (false, i) u (by simp) (by simp [ownL, hu]) (h.th i x u hx hu), fun x hx => ?_, h.ti, ?_⟩
  · by_cases hi : i = ws0.length
    · subst hi
      rw [← hsl] at hu
      simp at hx hu
      subst hx hu
      have := o1 (by decide) ho
      rw [← flat_snoc] at this
      simpa [moreR] using this
    · have hu' := lastL i hi u hu
      have hx' : (ws0 ++ [r])[i]? = some x := by
        rcases Nat.lt_or_ge i ws0.length with hl | hl
        · simp only at hx
          rw [List.getElem?_append_left hl] at hx ⊢
          exact hx
        · simp only at hx
          rw [List.getElem?_eq_none (by simp; omega)] at hx
          cases hx
      exact keep (true, i) u (by simpa using hi) (by simp [ownL, hu']) (h.sh i x u hx' hu')
  · rcases List.mem_append.1 hx with hx | hx
    · exact h.wi x (List.mem_append_left _ hx)
    · obtain rfl := List.mem_singleton.1 hx
      intro s' hs'
      rcases List.mem_append.1 hs' with hs' | hs'
      · exact h.wi r (by simp) s' hs'
      · obtain rfl := List.mem_singleton.1 hs'
        exact hs
  · refine apart_turn (x0 := (true, ws0.length)) (g := g) h.apart (by simp [ownL, ← hsl, hv']) own2 ?_
    rcases hgg with hgg | hgg
    · exact .inl (hv0.trans hgg)
    · exact .inr fun x k hx e => by have := h.old hx; omega
theorem Rows.addST {w1 : World} {ws0 : List Wr} {r : Wr} {ws : List Wr} {fs : List Fl} {ss0 : List Value} {v v' : Value} {gW g cap : Nat} {s : Sec} (h : Rows w base wv (.slice (some ⟨gW, 0, none⟩) (ws0.length + 1) cap) fv ⟨ws, ws0 ++ [r], fs⟩ ss (ss0 ++ [v])) (hs : s.I)
    (hg : w.grownBy w1 v.ownBlock) (ho : w1.ownsRow base 37 6 v' (r.l.length + 1) (flat r.l ++ s.cells)) (hv' : v'.ownBlock = some g) (hgg : v.ownBlock = some g ∨ g = w.heap.size) :
    Rows (w1.setCell ⟨gW, ws0.length * 5 + 4, none⟩ v') base wv (.slice (some ⟨gW, 0, none⟩) (ws0.length + 1) cap) fv ⟨ws, ws0 ++ [moreR r s], fs⟩ ss (ss0 ++ [v']) := by
  have hsl : ss0.length = ws0.length := by have := h.tl; simpa using this
  have hS : w.ownsRow base 37 6 v r.l.length (flat r.l) := h.th ws0.length r v (by simp) (by rw [← hsl]; simp)
  have h1 := h.ts.kept hg (rows_apart h.ts hS (by decide))
  have h1' : w1.ownsRow base 35 5 (.slice (some ⟨gW, 0, none⟩) (ws0.length + 1) cap) (ws0.length + 1) (flatR (ws0 ++ [r]) (ss0 ++ [v])) := by simpa using h1
  obtain ⟨h2, g2⟩ := h1'.stored (ws0.length * 5 + 4) v'
  rw [flatR_last ws0 ss0 r s v v' hsl.symm] at h2
  have o1 : ∀ {e size n : Nat} {u : Value} {xs : List Value}, e ≠ 35 → w1.ownsRow base e size u n xs → (w1.setCell ⟨gW, ws0.length * 5 + 4, none⟩ v').ownsRow base e size u n xs := fun {e size n u xs} he hu => by
    refine hu.kept g2 ?_
    rcases rows_apart hu h1' he with h3 | h3
    · exact .inl h3
    · exact .inr h3
  have lastL : ∀ (i : Nat), i ≠ ws0.length → ∀ u, (ss0 ++ [v'])[i]? = some u → (ss0 ++ [v])[i]? = some u := fun i hi u hu => by
    rcases Nat.lt_or_ge i ss0.length with hl | hl
    · rw [List.getElem?_append_left hl] at hu ⊢
      exact hu
    · rw [List.getElem?_eq_none (by simp; omega)] at hu
      cases hu
  have own2 : ∀ x, x ≠ ((false, ws0.length) : Bool × Nat) → ownL ss (ss0 ++ [v']) x = ownL ss (ss0 ++ [v]) x := fun x hx => by
    obtain ⟨b, i⟩ := x
    cases b
    · have hi : i ≠ ws0.length := fun e => hx (by rw [e])
      simp only [ownL]
      rcases Nat.lt_or_ge i ss0.length with hl | hl
      · rw [List.getElem?_append_left hl, List.getElem?_append_left hl]
      · rw [List.getElem?_eq_none (by simp; omega), List.getElem?_eq_none (by simp; omega)]
    · rfl
  have hv0 : ownL ss (ss0 ++ [v]) (false, ws0.length) = v.ownBlock := by simp [ownL, ← hsl]
  have far : ∀ (x : Bool × Nat) (k : Nat) (u : Value), ownL ss (ss0 ++ [v]) x = some k → x ≠ (false, ws0.length) → u.ownBlock = some k → u.ownBlock ≠ v.ownBlock := fun x k u hx hne hu e => by
    rw [hu] at e
    exact hne (h.apart x _ k hx (hv0.trans e.symm))
  have keep : ∀ (x : Bool × Nat) (u : Value) {n : Nat} {xs : List Value}, x ≠ (false, ws0.length) → ownL ss (ss0 ++ [v]) x = u.ownBlock → w.ownsRow base 37 6 u n xs → (w1.setCell ⟨gW, ws0.length * 5 + 4, none⟩ v').ownsRow base 37 6 u n xs := fun x u {n xs} hx hu ho => by
    refine o1 (by decide) (ho.kept hg ?_)
    cases hb : u.ownBlock with
    | none => exact .inl rfl
    | some k => exact .inr (hb ▸ far x k u (hu.trans hb) hx hb)
  refine ⟨o1 (by decide) (h.ws.kept hg (rows_apart h.ws hS (by decide))), by simpa using h2, o1 (by decide) (h.fs.kept hg (rows_apart h.fs hS (by decide))), h.sl, by simp [hsl], fun i x u hx hu => keep (true, i) u (by simp) (by simp [ownL, hu]) (h.sh i x u hx hu), fun i x u hx hu => ?_, h.wi, fun x hx => ?_, ?_⟩
  · by_cases hi : i = ws0.length
    · subst hi
      rw [← hsl] at hu
      simp at hx hu
      subst hx hu
      have := o1 (by decide) ho
      rw [← flat_snoc] at this
      simpa [moreR] using this
    · have hu' := lastL i hi u hu
      have hx' : (ws0 ++ [r])[i]? = some x := by
        rcases Nat.lt_or_ge i ws0.length with hl | hl
        · simp only at hx
          rw [List.getElem?_append_left hl] at hx ⊢
          exact hx
        · simp only at hx
          rw [List.getElem?_eq_none (by simp; omega)] at hx
          cases hx
      exact keep (false, i) u (by simpa using hi) (by simp [ownL, hu']) (h.th i x u hx' hu')
  · rcases List.mem_append.1 hx with hx | hx
    · exact h.ti x (List.mem_append_left _ hx)
    · obtain rfl := List.mem_singleton.1 hx
      intro s' hs'
      rcases List.mem_append.1 hs' with hs' | hs'
      · exact h.ti r (by simp) s' hs'
      · obtain rfl := List.mem_singleton.1 hs'
        exact hs
  · refine apart_turn (x0 := (false, ws0.length)) (g := g) h.apart (by simp [ownL, ← hsl, hv']) own2 ?_
    rcases hgg with hgg | hgg
    · exact .inl (hv0.trans hgg)
    · exact .inr fun x k hx e => by have := h.old hx; omega
end
end Go.Proofs.YtflklpflpjdbmaaGreatDoor

namespace Go.Proofs.YtflklpflpjdbmaaGreatDoor
open Go.RowKit
theorem r8lower_any (n : Nat) (w : World) : Calls Tryz.prog 76 #[.int .u8 (n : Int)] w fun e w' => e = .returned (.bool (lowN n)) ∧ w = w' := by
  unfold lowN
  by_cases c : 97 ≤ n
  · have cB : decide ((97 : Int) ≤ (n : Int)) = true := decide_eq_true (by omega)
    have e2 : decide (n ≤ 122) = decide ((n : Int) ≤ 122) := decide_eq_decide.2 (by omega)
    rw [decide_eq_true c, e2, Bool.true_and]
    go_enter Tryz.func76, Tryz.ntmps76
    go_wp2
    go_ret
    exact ⟨rfl, rfl⟩
  · have cB : decide ((97 : Int) ≤ (n : Int)) = false := decide_eq_false (by omega)
    rw [decide_eq_false c, Bool.false_and]
    go_enter Tryz.func76, Tryz.ntmps76
    go_wp2
    go_ret
    exact ⟨rfl, rfl⟩
theorem r8digit_any (n : Nat) (w : World) : Calls Tryz.prog 77 #[.int .u8 (n : Int)] w fun e w' => e = .returned (.bool (digN n)) ∧ w = w' := by
  unfold digN
  by_cases c : 48 ≤ n
  · have cB : decide ((48 : Int) ≤ (n : Int)) = true := decide_eq_true (by omega)
    have e2 : decide (n ≤ 57) = decide ((n : Int) ≤ 57) := decide_eq_decide.2 (by omega)
    rw [decide_eq_true c, e2, Bool.true_and]
    go_enter Tryz.func77, Tryz.ntmps77
    go_wp2
    go_ret
    exact ⟨rfl, rfl⟩
  · have cB : decide ((48 : Int) ≤ (n : Int)) = false := decide_eq_false (by omega)
    rw [decide_eq_false c, Bool.false_and]
    go_enter Tryz.func77, Tryz.ntmps77
    go_wp2
    go_ret
    exact ⟨rfl, rfl⟩
theorem r8name_any (s : ByteArray) (w : World) : Calls Tryz.prog 40 #[.string s] w fun e w' => e = .returned (.bool (nameS s)) ∧ w = w' := by
  by_cases h1 : s.size < 1
  · have h1B : decide ((s.size : Int) < 1) = true := decide_eq_true (by omega)
    rw [nameS_size (.inl h1)]
    clear h1
    go_enter Tryz.func40, Tryz.ntmps40
    go_wp2
    go_ret
    exact ⟨rfl, rfl⟩
  have h1B : decide ((s.size : Int) < 1) = false := decide_eq_false (by omega)
  by_cases h2 : 16 < s.size
  · have h2B : decide ((16 : Int) < (s.size : Int)) = true := decide_eq_true (by omega)
    rw [nameS_size (.inr h2)]
    clear h1 h2
    go_enter Tryz.func40, Tryz.ntmps40
    go_wp2
    go_ret
    exact ⟨rfl, rfl⟩
  have h2B : decide ((16 : Int) < (s.size : Int)) = false := decide_eq_false (by omega)
  have hz : (0 : Int) < (s.size : Int) := by omega
  have hg0 : ∀ h : 0 < s.size, (s[0]'h).toNat = byteAt s 0 := fun h => byteAt_get s 0 h
  have c0 := fun w => r8lower_any (byteAt s 0) w
  cases h3 : lowN (byteAt s 0)
  · rw [nameS_first h3]
    rw [h3] at c0
    generalize byteAt s 0 = b0 at *
    clear h3
    go_enter Tryz.func40, Tryz.ntmps40
    go_wp2_with fail
    refine (c0 _).mono ?_
    rintro e w1 ⟨rfl, rfl⟩
    go_wp2
    go_ret
    exact ⟨rfl, rfl⟩
  rw [h3] at c0
  have hgood := Lib.hid (fun h => nameS_good (s := s) (by omega) (by omega) h3 h)
  have hbad := @nameS_bad s
  generalize byteAt s 0 = b0 at *
  generalize nameS s = R at *
  clear h3 h1
  go_enter Tryz.func40, Tryz.ntmps40
  go_wp2_with fail
  refine (c0 _).mono ?_
  rintro e w1 ⟨rfl, rfl⟩
  clear c0 hg0
  go_wp2
  go_loopw [3] (fun i wr => ∃ k : Nat, k ≤ s.size ∧ i = .int .i64 k ∧ (∀ j, j < k → (lowN (byteAt s j) || digN (byteAt s j)) = true) ∧ w = wr) (fun i _ => s.size + 1 - (intOf i).toNat)
  case atStart => exact ⟨0, Nat.zero_le _, rfl, fun j hj => by omega, rfl⟩
  case round =>
    obtain ⟨k, hk, rfl, hall, rfl⟩ := hrel
    by_cases hl : k < s.size
    · have hlB : decide ((k : Int) < (s.size : Int)) = true := decide_eq_true (by omega)
      have hlI : (k : Int) < (s.size : Int) := by omega
      have hkB : (0 : Int) ≤ (k : Int) := by omega
      have wk1 : IntKind.i64.wrap ((k : Int) + 1) = (k : Int) + 1 := by rw [IntKind.wrap_i64]; omega
      have hg : ∀ h : k < s.size, (s[k]'h).toNat = byteAt s k := fun h => byteAt_get s k h
      have c1 := fun w => r8lower_any (byteAt s k) w
      have c2 := fun w => r8digit_any (byteAt s k) w
      have hb := hbad hl
      have hnext : (lowN (byteAt s k) || digN (byteAt s k)) = true → ∀ j, j < k + 1 → (lowN (byteAt s j) || digN (byteAt s j)) = true := fun h j hj => by
        by_cases c : j = k
        · subst c; exact h
        · exact hall j (by omega)
      clear hall
      generalize byteAt s k = b at *
      cases h4 : lowN b
      · cases h5 : digN b
        · rw [h4, h5] at hb
          obtain rfl := hb rfl
          rw [h4] at c1
          rw [h5] at c2
          clear hnext h4 h5
          go_wp2_with fail
          refine (c1 _).mono ?_
          rintro e w1 ⟨rfl, rfl⟩
          go_wp2_with fail
          refine (c2 _).mono ?_
          rintro e w1 ⟨rfl, rfl⟩
          go_wp2
          go_ret
          exact ⟨rfl, rfl⟩
        · have HA := Lib.hid (hnext (by rw [h4, h5]; rfl))
          rw [h4] at c1
          rw [h5] at c2
          clear hnext h4 h5 hb
          go_wp2_with fail
          refine (c1 _).mono ?_
          rintro e w1 ⟨rfl, rfl⟩
          go_wp2_with fail
          refine (c2 _).mono ?_
          rintro e w1 ⟨rfl, rfl⟩
          go_wp2
          go_roundw
          case rel => exact ⟨k + 1, by omega, by go_num, HA.out, trivial⟩
          case measure => simp [intOf]; omega
      · have HA := Lib.hid (hnext (by rw [h4]; rfl))
        rw [h4] at c1
        clear hnext h4 hb c2
        go_wp2_with fail
        refine (c1 _).mono ?_
        rintro e w1 ⟨rfl, rfl⟩
        go_wp2
        go_roundw
        case rel => exact ⟨k + 1, by omega, by go_num, HA.out, trivial⟩
        case measure => simp [intOf]; omega
    · have hlB : decide ((k : Int) < (s.size : Int)) = false := decide_eq_false (by omega)
      have HR := Lib.hid (hgood.out (fun i hi => hall i (by omega)))
      clear hall hgood hbad
      go_wp2
      go_ret
      exact ⟨by rw [HR.out]; rfl, rfl⟩
end Go.Proofs.YtflklpflpjdbmaaGreatDoor
