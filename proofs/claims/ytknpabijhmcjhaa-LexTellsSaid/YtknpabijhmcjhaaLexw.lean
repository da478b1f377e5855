/-
  Bytes, words, lines of words in memory. No program is named here.
-/
import Derived.Test.YtknpabijhmcjhaaLexm
import Derived.Test.YtknpabijhmcjhaaW
import Derived.Laws.OwnMore
import Derived.Laws.BytesArg
import Derived.OwnWalk
namespace Go.Proofs.Ytknpabijhmcjhaa
open Go.RowKit

/-- Bytes lie in block b, from place o on. -/
def BAt (w : World) (b o : Nat) (bs : List UInt8) : Prop := ∀ i c, bs[i]? = some c → w.cell? ⟨b, o + i, none⟩ = some (.int .u8 ((c.toNat : Nat) : Int))
theorem BAt.keep {w w' : World} {b o : Nat} {bs : List UInt8} (h : BAt w b o bs) (q : B w w') : BAt w' b o bs := fun i c hc => q.keep (h i c hc)
/-- The header of a slice of bytes. -/
structure IsB (w : World) (ao : Option Addr) (cap b o : Nat) (bs : List UInt8) : Prop where
  at_ : BAt w b o bs
  ao : 0 < bs.length → ao = some ⟨b, o, none⟩
  le : bs.length ≤ cap
  max : cap ≤ maxLen
theorem IsB.keep {w w' : World} {ao : Option Addr} {cap b o : Nat} {bs : List UInt8} (h : IsB w ao cap b o bs) (q : B w w') : IsB w' ao cap b o bs := ⟨h.at_.keep q, h.ao, h.le, h.max⟩
/-- Numbers of bytes, as the library's contracts want them. -/
def nums (bs : List UInt8) : List Int := bs.map fun c => ((c.toNat : Nat) : Int)
theorem nums_len (bs : List UInt8) : (nums bs).length = bs.length := by simp [nums]
theorem nums_get (bs : List UInt8) (i : Nat) (c : UInt8) (h : bs[i]? = some c) : (nums bs).getD i 0 = ((c.toNat : Nat) : Int) := by
  unfold nums
  rw [List.getD_eq_getElem?_getD, List.getElem?_map, h]
  rfl
theorem bytes_nums (bs : List UInt8) : (nums bs).map (fun n => UInt8.ofNat n.toNat) = bs := by
  unfold nums
  rw [List.map_map]
  conv => rhs; rw [← List.map_id bs]
  apply List.map_congr_left
  intro c _
  simp
theorem BAt.nums {w : World} {b o n : Nat} {bs : List UInt8} (h : BAt w b o bs) (hn : bs.length = n) : ∀ i, i < n → w.cell? ⟨b, o + i, none⟩ = some (.int .u8 ((nums bs).getD i 0)) := fun i hi => by
  have hg : bs[i]? = some bs[i] := List.getElem?_eq_getElem (by omega)
  rw [nums_get bs i _ hg]
  exact h i _ hg
theorem BAt.drop {w : World} {b o : Nat} {bs : List UInt8} (h : BAt w b o bs) (k : Nat) : BAt w b (o + k) (bs.drop k) := fun i c hc => by
  rw [List.getElem?_drop] at hc
  rw [Nat.add_assoc]
  exact h _ _ hc
theorem BAt.take {w : World} {b o : Nat} {bs : List UInt8} (h : BAt w b o bs) (k : Nat) : BAt w b o (bs.take k) := fun i c hc => by
  rw [List.getElem?_take] at hc
  split at hc
  · exact h _ _ hc
  · cases hc
/-- A string of bytes. -/
def strB (l : List UInt8) : ByteArray := ⟨l.toArray⟩
theorem strB_size (l : List UInt8) : (strB l).size = l.length := by simp [strB, ByteArray.size]
theorem strB_nums (l : List UInt8) : strOfNums (nums l) = strB l := by
  unfold strOfNums strB
  rw [bytes_nums]
theorem strB_inj {a b : List UInt8} (h : strB a = strB b) : a = b := by
  unfold strB at h
  have := congrArg (fun x => x.data.toList) h
  simpa using this

/-- The cells of words. -/
def flatW (ws : List Wd) : List Value := ws.flatMap fun x => [.int .i64 ((x.1 : Nat) : Int), .string (strB x.2)]
theorem flatW_len (ws : List Wd) : (flatW ws).length = ws.length * 2 := by
  induction ws with
  | nil => rfl
  | cons x l ih =>
    show ([_, _] ++ flatW l).length = _
    rw [List.length_append, ih, List.length_cons]
    simp
    omega
theorem flatW_get : ∀ (ws : List Wd) (i : Nat) (x : Wd), ws[i]? = some x → (flatW ws)[i * 2]? = some (.int .i64 ((x.1 : Nat) : Int)) ∧ (flatW ws)[i * 2 + 1]? = some (.string (strB x.2))
  | [], _, _, h => by simp at h
  | y :: l, 0, x, h => by
    simp at h; subst h; exact ⟨rfl, rfl⟩
  | y :: l, i + 1, x, h => by
    have ih := flatW_get l i x (by simpa using h)
    constructor
    · show ([_, _] ++ flatW l)[(i + 1) * 2]? = _
      rw [List.getElem?_append_right (by simp; omega), show (i + 1) * 2 - ([_, _] : List Value).length = i * 2 by simp; omega]
      exact ih.1
    · show ([_, _] ++ flatW l)[(i + 1) * 2 + 1]? = _
      rw [List.getElem?_append_right (by simp; omega), show (i + 1) * 2 + 1 - ([_, _] : List Value).length = i * 2 + 1 by simp; omega]
      exact ih.2
theorem flatW_snoc (ws : List Wd) (x : Wd) : flatW (ws ++ [x]) = flatW ws ++ [.int .i64 ((x.1 : Nat) : Int), .string (strB x.2)] := by simp [flatW]
theorem flatW_one (ws : List Wd) : ∀ u ∈ flatW ws, u.oneCell' = true := by
  intro u hu
  obtain ⟨x, _, hx⟩ := List.mem_flatMap.1 hu
  simp only [List.mem_cons, List.not_mem_nil, or_false] at hx
  rcases hx with h | h <;> rw [h] <;> rfl
/-- Words in memory. -/
def IsWords (w : World) (v : Value) (ws : List Wd) : Prop :=
  (v = .slice none 0 0 ∧ ws = []) ∨
  ∃ g cap, v = .slice (some ⟨g, 0, none⟩) ws.length cap ∧ ws.length ≤ cap ∧ cap ≤ maxLen ∧ ∀ i x, ws[i]? = some x → w.cell? ⟨g, i * 2, none⟩ = some (.int .i64 ((x.1 : Nat) : Int)) ∧ w.cell? ⟨g, i * 2 + 1, none⟩ = some (.string (strB x.2))
theorem IsWords.form {w : World} {v : Value} {ws : List Wd} (h : IsWords w v ws) : ∃ ao cap, v = .slice ao ws.length cap := by
  rcases h with ⟨rfl, rfl⟩ | ⟨g, cap, rfl, _⟩ <;> exact ⟨_, _, rfl⟩
theorem IsWords.full {w : World} {v : Value} {ws : List Wd} (h : IsWords w v ws) (hw : 0 < ws.length) : ∃ g cap, v = .slice (some ⟨g, 0, none⟩) ws.length cap ∧ ws.length ≤ cap ∧ cap ≤ maxLen ∧ g < w.heap.size ∧ ∀ i x, ws[i]? = some x → w.cell? ⟨g, i * 2, none⟩ = some (.int .i64 ((x.1 : Nat) : Int)) ∧ w.cell? ⟨g, i * 2 + 1, none⟩ = some (.string (strB x.2)) := by
  rcases h with ⟨rfl, rfl⟩ | ⟨g, cap, h1, h2, h3, h4⟩
  · simp at hw
  · exact ⟨g, cap, h1, h2, h3, World.block_lt_of_cell? w _ (h4 0 _ (List.getElem?_eq_getElem hw)).1, h4⟩
/-- Words stay where their block stays. -/
theorem IsWords.block {w w' : World} {v : Value} {ws : List Wd} (h : IsWords w v ws) (hb : ∀ b, v.ownBlock = some b → b < w.heap.size → w'.heap[b]? = w.heap[b]?) : IsWords w' v ws := by
  rcases h with h | ⟨g, cap, rfl, h2, h3, h4⟩
  · exact .inl h
  · refine .inr ⟨g, cap, rfl, h2, h3, fun i x hx => ?_⟩
    obtain ⟨k1, k2⟩ := h4 i x hx
    have hlt := World.block_lt_of_cell? w _ k1
    have e := hb g rfl hlt
    exact ⟨(World.cell?_of_block (a := ⟨g, i * 2, none⟩) e).trans k1, (World.cell?_of_block (a := ⟨g, i * 2 + 1, none⟩) e).trans k2⟩
theorem IsWords.keep {w w' : World} {v : Value} {ws : List Wd} (h : IsWords w v ws) (q : B w w') : IsWords w' v ws := h.block fun b _ hlt => q.below.block b hlt
theorem words_own {w : World} {base : Nat} {e : TypeId} {ao : Option Addr} {k c : Nat} {ws : List Wd} (h : w.ownsRow base e 2 (.slice ao k c) k (flatW ws)) (hl : ws.length = k) : IsWords w (.slice ao k c) ws := by
  have hh := h
  rcases hh.2 with ⟨h0, h1⟩ | ⟨g, cap, cur, hv, _, _, h1, h2, _⟩
  · refine .inl ⟨h0, ?_⟩
    simp only [Value.slice.injEq] at h0
    exact List.length_eq_zero_iff.1 (by omega)
  · simp only [Value.slice.injEq] at hv
    obtain ⟨rfl, _, rfl⟩ := hv
    subst hl
    refine .inr ⟨g, c, rfl, h1, h2, fun i x hx => ?_⟩
    have hi : i < ws.length := (List.getElem?_eq_some_iff.1 hx).1
    obtain ⟨k1, k2⟩ := flatW_get ws i x hx
    exact ⟨(h.cellAt (i * 2) (by omega)).trans k1, (h.cellAt (i * 2 + 1) (by omega)).trans k2⟩

/-- Lines of words, in a row that the call owns. -/
structure LinesO (w : World) (base : Nat) (e : TypeId) (v : Value) (LL : List (List Wd)) (vs : List Value) : Prop where
  own : w.ownsRow base e 1 v LL.length vs
  row : ∀ (j : Nat) u L, vs[j]? = some u → LL[j]? = some L → IsWords w u L ∧ ∃ b, u.ownBlock = some b ∧ v.ownBlock ≠ some b ∧ b < w.heap.size ∧ base ≤ b
theorem LinesO.nil (w : World) (base : Nat) (e : TypeId) : LinesO w base e (.slice none 0 0) [] [] := ⟨World.ownsRow_nil _ _ _ _, fun j u L h => by simp at h⟩
theorem lines_keep {w w' : World} {base : Nat} {e : TypeId} {v : Value} {LL : List (List Wd)} {vs : List Value} (h : LinesO w base e v LL vs) {row : Option Nat} (q : w.grownBy w' row)
    (hv : ∀ b, row = some b → v.ownBlock ≠ some b) (hs : ∀ b, row = some b → ∀ u ∈ vs, u.ownBlock ≠ some b) : LinesO w' base e v LL vs := by
  refine ⟨h.own.kept (row := row) q ?_, fun j u L hu hL => ?_⟩
  · cases hb : v.ownBlock with
    | none => exact .inl rfl
    | some b => exact .inr fun e => hv b e.symm hb
  · obtain ⟨h1, b, h2, h3, h4, h5⟩ := h.row j u L hu hL
    exact ⟨h1.block fun b' hb' hlt => q.block b' hlt (fun e => hs b' e.symm u (List.mem_of_getElem? hu) hb'), b, h2, h3, Nat.lt_of_lt_of_le h4 q.size, h5⟩
theorem B.none {w w' : World} (q : B w w') : w.grownBy w' none := ⟨q.below.os, q.below.tape, q.below.output, q.below.size, fun k hk _ => q.below.block k hk⟩
theorem row_keep {w w' : World} {base : Nat} {e : TypeId} {size n : Nat} {v : Value} {xs : List Value} (h : w.ownsRow base e size v n xs) (q : B w w') : w'.ownsRow base e size v n xs :=
  h.kept (row := none) q.none (by cases v.ownBlock <;> simp)
theorem addz (b j : Nat) : (⟨b, 0, none⟩ : Addr).add j = ⟨b, j, none⟩ := by unfold Addr.add; split <;> simp_all
/-- Cells of a new block. -/
theorem newest {w : World} {cs : Array Value} {t : TypeId} {H : Nat} (hH : w.heap.size = H) : ∀ j u, cs.toList[j]? = some u → (w.alloc (.cells cs t)).cell? ((⟨H, 0, none⟩ : Addr).add j) = some u := by
  intro j u h
  rw [addz]
  subst hH
  rw [World.cell?_alloc_new]
  simpa using h
theorem info_of {P : Program} {t : TypeId} {z : Value} {s b : Nat} (h : (P.info? t).map (fun i => (i.zero, i.size, i.bytes)) = some (some z, s, b)) : ∃ i, P.info? t = some i ∧ i.zero = some z ∧ i.size = s ∧ i.bytes = b := by
  cases hi : P.info? t with
  | none => rw [hi] at h; cases h
  | some i => rw [hi] at h; simp at h; exact ⟨i, rfl, h.1, h.2.1, h.2.2⟩
theorem LinesO.keep {w w' : World} {base : Nat} {e : TypeId} {v : Value} {LL : List (List Wd)} {vs : List Value} (h : LinesO w base e v LL vs) (q : B w w') : LinesO w' base e v LL vs :=
  lines_keep h q.none (fun b hb => by cases hb) (fun b hb => by cases hb)
theorem LinesO.len {w : World} {base : Nat} {e : TypeId} {v : Value} {LL : List (List Wd)} {vs : List Value} (h : LinesO w base e v LL vs) : vs.length = LL.length := by
  have := h.own.1
  omega
/-- A line more. -/
theorem lines_more {w1 w2 : World} {base : Nat} {e : TypeId} {v : Value} {LL : List (List Wd)} {vs : List Value} {g cap : Nat} {u : Value} {L : List Wd} (h : LinesO w1 base e v LL vs)
    (own : w2.ownsRow base e 1 (.slice (some ⟨g, 0, none⟩) (LL.length + 1) cap) (LL.length + 1) (vs ++ [u])) (q : w1.grownBy w2 v.ownBlock) (hat : v.ownBlock = some g ∨ g = w1.heap.size)
    (hu : IsWords w1 u L) {b : Nat} (hb : u.ownBlock = some b) (hvb : v.ownBlock ≠ some b) (hlt : b < w1.heap.size) (hbase : base ≤ b) :
    LinesO w2 base e (.slice (some ⟨g, 0, none⟩) (LL ++ [L]).length cap) (LL ++ [L]) (vs ++ [u]) := by
  have hlen := h.len
  have key : ∀ (u : Value) (L : List Wd), IsWords w1 u L → (∃ b, u.ownBlock = some b ∧ v.ownBlock ≠ some b ∧ b < w1.heap.size ∧ base ≤ b) → IsWords w2 u L ∧ ∃ b, u.ownBlock = some b ∧ (Value.slice (some ⟨g, 0, none⟩) (LL ++ [L]).length cap).ownBlock ≠ some b ∧ b < w2.heap.size ∧ base ≤ b := by
    intro u L hu ⟨b, hb, hvb, hlt, hba⟩
    refine ⟨hu.block fun b' hb' hlt' => q.block b' hlt' (fun e => ?_), b, hb, fun e => ?_, Nat.lt_of_lt_of_le hlt q.size, hba⟩
    · rw [hb] at hb'
      cases hb'
      exact hvb e.symm
    · have hg : g = b := Option.some.inj e
      rcases hat with hat | hat
      · exact hvb (hat.trans (congrArg some hg))
      · omega
  have elen : (LL ++ [L]).length = LL.length + 1 := by simp
  refine ⟨elen ▸ own, fun j x M hx hM => ?_⟩
  rcases Nat.lt_or_ge j LL.length with hj | hj
  · rw [List.getElem?_append_left (by omega)] at hx hM
    obtain ⟨h1, h2⟩ := h.row j x M hx hM
    have := key x M h1 h2
    exact this
  · have hj' : j = LL.length := by
      have := (List.getElem?_eq_some_iff.1 hM).1
      simp at this
      omega
    subst hj'
    rw [List.getElem?_append_right (by omega)] at hx hM
    simp only [Nat.sub_self, List.getElem?_cons_zero, Option.some.injEq] at hM
    rw [show LL.length - vs.length = 0 by omega] at hx
    simp only [List.getElem?_cons_zero, Option.some.injEq] at hx
    subst hx hM
    exact key _ _ hu ⟨b, hb, hvb, hlt, hbase⟩
/-- Lines of words in memory. -/
def IsLines (w : World) (v : Value) (LL : List (List Wd)) : Prop :=
  (v = .slice none 0 0 ∧ LL = []) ∨
  ∃ g cap, v = .slice (some ⟨g, 0, none⟩) LL.length cap ∧ LL.length ≤ cap ∧ cap ≤ maxLen ∧ ∀ i L, LL[i]? = some L → ∃ u, w.cell? ⟨g, i, none⟩ = some u ∧ IsWords w u L
theorem IsLines.keep {w w' : World} {v : Value} {LL : List (List Wd)} (h : IsLines w v LL) (q : B w w') : IsLines w' v LL := by
  rcases h with h | ⟨g, cap, h1, h2, h3, h4⟩
  · exact .inl h
  · exact .inr ⟨g, cap, h1, h2, h3, fun i L hL => by obtain ⟨u, k1, k2⟩ := h4 i L hL; exact ⟨u, q.keep k1, k2.keep q⟩⟩
theorem IsLines.form {w : World} {v : Value} {LL : List (List Wd)} (h : IsLines w v LL) : ∃ ao cap, v = .slice ao LL.length cap := by
  rcases h with ⟨rfl, rfl⟩ | ⟨g, cap, rfl, _⟩ <;> exact ⟨_, _, rfl⟩
theorem LinesO.is {w : World} {base : Nat} {e : TypeId} {v : Value} {LL : List (List Wd)} {vs : List Value} (h : LinesO w base e v LL vs) : IsLines w v LL := by
  have hown := h.own
  rcases hown.2 with ⟨h0, h1⟩ | ⟨g, cap, cur, rfl, _, _, h1, h2, _⟩
  · exact .inl ⟨h0, List.length_eq_zero_iff.1 (by omega)⟩
  · refine .inr ⟨g, cap, rfl, h1, h2, fun i L hL => ?_⟩
    have hi : i < LL.length := (List.getElem?_eq_some_iff.1 hL).1
    have hlen := h.len
    have hu : vs[i]? = some vs[i] := List.getElem?_eq_getElem (by omega)
    exact ⟨_, (hown.cellAt i (by omega)).trans hu, (h.row i _ L hu hL).1⟩
end Go.Proofs.Ytknpabijhmcjhaa
