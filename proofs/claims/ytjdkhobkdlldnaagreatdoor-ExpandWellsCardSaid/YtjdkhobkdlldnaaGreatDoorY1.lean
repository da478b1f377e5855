/-
  copy(dst, src) of elements of any size, dst in a row that is known whole. No program is named here; Names: which strings are. No program is named here; Words of bytes: which lines of words any bytes are, or the first byte that is none. No program is named here; What becomes of the world in a call that turns nothing that was there: new blocks, draws; Bytes, words, lines of words in memory. No program is named here; Regions that draw their order: one order is walked, its right is reckoned once by masks of bits. No program is named here; Regions that draw their order and end by changing what they have read ('t.l = append(t.l, f(t.l[n]))'): one operation is the gate; ahead of it a condition S holds, behind it nothing is asked. One order is walked. No program is named here.
-/
import Derived.WalkKit
import Derived.RowKit3
import Derived.Deep.Draws
import Derived.Lib.Hide
import Derived.Deep.AppendLies
import Derived.Laws.CopyRow
import Derived.Laws.CopyOwn
import Derived.Laws.IdiomCopy
import Derived.Tactics
import Derived.Below
import Derived.Deep.RegionLaw
import Derived.Laws.OwnMore
import Derived.Laws.BytesArg
import Derived.OwnWalk
import Derived.Deep.RegionHeld3
import Derived.KernelRfl
namespace Go.Proofs.YtjdkhobkdlldnaaGreatDoor
open Go.RowKit
theorem run_copy_any {P : Program} (w : World) (dT sT ty elem : TypeId) (g o dLen dCap : Nat) (a : Addr) (sLen sCap size : Nat) (cur : Array Value) (t : TypeId) (cs : List Value) (i : TypeInfo)
    (hu : P.underlying dT = some (.slice elem)) (hi : P.info? elem = some i) (hs : i.size = size)
    (hg : w.heap[g]? = some (.cells cur t (0, 0))) (hn : cs.length = Nat.min sLen dLen * size)
    (hsrc : ∀ j v, cs[j]? = some v → w.cell? (a.add j) = some v) (hfit : o + cs.length ≤ cur.size) (h1 : ∀ v ∈ cs, v.oneCell' = true) :
    (Builtin.copy_ #[dT, sT] ty #[.slice (some ⟨g, o, none⟩) dLen dCap, .slice (some a) sLen sCap]).run P w =
      .ok (goInt (Nat.min sLen dLen)) (w.setRow g (cur.toList.take o ++ cs ++ cur.toList.drop (o + cs.length)).toArray) := by
  have hl := run_loadCells_list (P := P) w a cs hsrc
  have hst := run_storeCells_at P g o t cs 0 cur w hg (by simpa using hfit) h1
  subst hs
  simp [Builtin.copy_, run_underlying hu, Builtin.lenOf, Builtin.firstCells, sizeOf, typeInfo, hi, ← hn, hl, hst]
/-- At the operation. -/
theorem wp_copy_any {P : Program} {w : World} {o : Oper} {a : Act} {K : Act → World → Prop} {Q : Exit → Act → World → Prop} (d s : Operand) (dT sT : TypeId)
    (ho : o.op = .call { callee := .builtin .copy, args := #[d, s], argTypes := #[dT, sT] }) (elem : TypeId) (i : TypeInfo) (size : Nat) (hu : P.underlying dT = some (.slice elem)) (hi : P.info? elem = some i) (hs : i.size = size)
    (g off dLen dCap : Nat) (ad : Addr) (sLen sCap : Nat) (hd : a.eval d = .slice (some ⟨g, off, none⟩) dLen dCap) (hsv : a.eval s = .slice (some ad) sLen sCap)
    (cur : Array Value) (t : TypeId) (hg : w.heap[g]? = some (.cells cur t (0, 0))) (cs : List Value) (hn : cs.length = Nat.min sLen dLen * size)
    (hsrc : ∀ j v, cs[j]? = some v → w.cell? (ad.add j) = some v) (hfit : off + cs.length ≤ cur.size) (h1 : ∀ v ∈ cs, v.oneCell' = true) (m : Nat) (hm : Nat.min sLen dLen = m) (B : Nat) (w0 : World) (hb : Below B w0 w) (hBg : B ≤ g)
    (h : ∀ w', w'.heap[g]? = some (.cells (cur.toList.take off ++ cs ++ cur.toList.drop (off + cs.length)).toArray t (0, 0)) → Below B w0 w' → K (a.put o.dst (.int .i64 (m : Int))) w') : Oper.wp P o a w K Q := by
  have hrun := run_copy_any (P := P) w dT sT o.type elem g off dLen dCap ad sLen sCap size cur t cs i hu hi hs hg hn hsrc hfit h1
  rw [hm] at hrun
  have hgo : goInt m = .int .i64 (m : Int) := rfl
  unfold Oper.wp
  simp only [execOp, ho, resolve, invoke, builtin, Sem.run_bind, Sem.run_pure, Result.andThen_ok, List.map_toArray, List.map_cons, List.map_nil, hd, hsv, hrun]
  rw [hgo]
  exact h _ (setRow_heap w g _ _ t _ hg) (below_setRow hb hBg _)
/-- As one operation. -/
theorem wpList_copy_any {P : Program} {w : World} {ops : Array Oper} {rest : List Oper} {o : Oper} {a : Act} {Q : Exit → Act → World → Prop} (hgd : o.guard = none) (d s : Operand) (dT sT : TypeId)
    (ho : o.op = .call { callee := .builtin .copy, args := #[d, s], argTypes := #[dT, sT] }) (elem : TypeId) (i : TypeInfo) (size : Nat) (hu : P.underlying dT = some (.slice elem)) (hi : P.info? elem = some i) (hs : i.size = size)
    (g off dLen dCap : Nat) (ad : Addr) (sLen sCap : Nat) (hd : a.eval d = .slice (some ⟨g, off, none⟩) dLen dCap) (hsv : a.eval s = .slice (some ad) sLen sCap)
    (cur : Array Value) (t : TypeId) (hg : w.heap[g]? = some (.cells cur t (0, 0))) (cs : List Value) (hn : cs.length = Nat.min sLen dLen * size)
    (hsrc : ∀ j v, cs[j]? = some v → w.cell? (ad.add j) = some v) (hfit : off + cs.length ≤ cur.size) (h1 : ∀ v ∈ cs, v.oneCell' = true) (m : Nat) (hm : Nat.min sLen dLen = m) (B : Nat) (w0 : World) (hb : Below B w0 w) (hBg : B ≤ g)
    (h : ∀ w', w'.heap[g]? = some (.cells (cur.toList.take off ++ cs ++ cur.toList.drop (off + cs.length)).toArray t (0, 0)) → Below B w0 w' → wpList P ops Q rest (a.put o.dst (.int .i64 (m : Int))) w') : wpList P ops Q (o :: rest) a w :=
  wpList_plain hgd fun _ hK => wp_copy_any d s dT sT ho elem i size hu hi hs g off dLen dCap ad sLen sCap hd hsv cur t hg cs hn hsrc hfit h1 m hm B w0 hb hBg fun w' h1 h2 => hK _ _ (h w' h1 h2)
end Go.Proofs.YtjdkhobkdlldnaaGreatDoor

namespace Go.Proofs.YtjdkhobkdlldnaaGreatDoor
open Go.RowKit
/-- The i-th byte. -/
def byteAt (s : ByteArray) (i : Nat) : Nat := (s.data.toList.getD i 0).toNat
def lowN (n : Nat) : Bool := decide (97 ≤ n) && decide (n ≤ 122)
def digN (n : Nat) : Bool := decide (48 ≤ n) && decide (n ≤ 57)
/-- A name: a letter, then letters and digits, sixteen at most. -/
def nameS (s : ByteArray) : Bool := decide (1 ≤ s.size) && decide (s.size ≤ 16) && lowN (byteAt s 0) && (List.range s.size).all fun i => lowN (byteAt s i) || digN (byteAt s i)
theorem byteAt_get (s : ByteArray) (i : Nat) (h : i < s.size) : (s[i]'h).toNat = byteAt s i := by
  obtain ⟨⟨l⟩⟩ := s
  have h' : i < l.length := h
  show l[i].toNat = (l.getD i 0).toNat
  rw [List.getD_eq_getElem?_getD, List.getElem?_eq_getElem h']
  rfl
theorem nameS_size {s : ByteArray} (h : s.size < 1 ∨ 16 < s.size) : nameS s = false := by
  unfold nameS
  rcases h with h | h
  · rw [decide_eq_false (show ¬ 1 ≤ s.size by omega)]; simp
  · rw [decide_eq_false (show ¬ s.size ≤ 16 by omega)]; simp
theorem nameS_first {s : ByteArray} (h : lowN (byteAt s 0) = false) : nameS s = false := by
  unfold nameS; rw [h]; simp
theorem nameS_bad {s : ByteArray} {i : Nat} (hi : i < s.size) (h : (lowN (byteAt s i) || digN (byteAt s i)) = false) : nameS s = false := by
  have : ((List.range s.size).all fun i => lowN (byteAt s i) || digN (byteAt s i)) = false := by
    rw [List.all_eq_false]
    exact ⟨i, List.mem_range.2 hi, by simpa using h⟩
  unfold nameS; rw [this]; simp
theorem nameS_good {s : ByteArray} (h1 : 1 ≤ s.size) (h2 : s.size ≤ 16) (h3 : lowN (byteAt s 0) = true) (h : ∀ i, i < s.size → (lowN (byteAt s i) || digN (byteAt s i)) = true) : nameS s = true := by
  unfold nameS
  rw [decide_eq_true h1, decide_eq_true h2, h3]
  simp only [Bool.true_and]
  exact List.all_eq_true.2 fun i hi => h i (List.mem_range.1 hi)
end Go.Proofs.YtjdkhobkdlldnaaGreatDoor

namespace Go.Proofs.YtjdkhobkdlldnaaGreatDoor
open Go.RowKit
/-- A word: where, and its bytes. -/
abbrev Wd := Nat × List UInt8
def capN (n : Nat) : Bool := decide (65 ≤ n) && decide (n ≤ 90)
def kindN (n : Nat) : Nat := if lowN n then 1 else if capN n then 2 else if digN n then 3 else if n = 46 then 4 else if n = 32 ∨ n = 9 then 5 else if n = 10 then 6 else if n = 35 then 7 else 0
section
variable {bs : List UInt8} {p : Nat} {c : UInt8} {out : List (List Wd)} {line : List Wd} {w : List UInt8} {note : Bool}
end
end Go.Proofs.YtjdkhobkdlldnaaGreatDoor

namespace Go.Proofs.YtjdkhobkdlldnaaGreatDoor
open Go.RowKit
/-- The world behind is the one before, but for draws. -/
def Dr (w w' : World) : Prop := ∃ n, w' = w.drewN n
theorem Dr.refl (w : World) : Dr w w := ⟨0, rfl⟩
theorem Dr.trans {a b c : World} (h : Dr a b) (k : Dr b c) : Dr a c := by
  obtain ⟨n, rfl⟩ := h
  obtain ⟨m, rfl⟩ := k
  exact ⟨n + m, World.drewN_drewN _ _ _⟩
/-- New blocks and draws: of what was there nothing turns, and no mark. -/
structure Q (w w' : World) : Prop where
  below : Below w.heap.size w w'
  marks : ∀ a, w'.frozen? a = w.frozen? a
theorem Q.refl (w : World) : Q w w := ⟨Below.refl _ _, fun _ => rfl⟩
theorem Q.trans {a b c : World} (h : Q a b) (k : Q b c) : Q a c :=
  ⟨h.below.trans (k.below.mono h.below.size), fun x => (k.marks x).trans (h.marks x)⟩
theorem Q.drew {a w : World} (h : Q a w) : Q a w.drew := ⟨h.below.drew, h.marks⟩
theorem Q.drewN {a w : World} (h : Q a w) (n : Nat) : Q a (w.drewN n) := ⟨⟨h.below.os, h.below.tape, h.below.output, h.below.size, h.below.block⟩, h.marks⟩
theorem Q.dr {a b c : World} (h : Q a b) (k : Dr b c) : Q a c := by obtain ⟨n, rfl⟩ := k; exact h.drewN n
theorem Dr.q {a b : World} (k : Dr a b) : Q a b := (Q.refl a).dr k
theorem Q.grown {a w : World} (h : Q a w) : Grown a w := ⟨h.below.frame _, h.marks, h.below.size⟩
theorem Q.alloc {a w : World} (h : Q a w) (c : Array Value) (t : TypeId) : Q a (w.alloc (.cells c t)) :=
  ⟨h.below.alloc h.below.size _, fun x => ((Grown.refl w).alloc c t).2.1 x |>.trans (h.marks x)⟩
theorem Q.setCell {a w : World} (h : Q a w) {p : Addr} (hp : a.heap.size ≤ p.block) (v : Value) : Q a (w.setCell p v) :=
  ⟨h.below.setCell hp v, fun x => (World.frozen?_setCell _ _ _ _).trans (h.marks x)⟩
/-- What a cell holds stays. -/
theorem Q.keep {w w' : World} (h : Q w w') {p : Addr} {v : Value} (hc : w.cell? p = some v) : w'.cell? p = some v := by
  rw [h.below.cell (World.block_lt_of_cell? w p hc)]; exact hc
/-- Of what was there nothing turns. (Weaker than Q: it serves behind an append.) -/
structure B (w w' : World) : Prop where
  below : Below w.heap.size w w'
theorem Q.b {w w' : World} (h : Q w w') : B w w' := ⟨h.below⟩
theorem B.refl (w : World) : B w w := ⟨Below.refl _ _⟩
theorem B.trans {a b c : World} (h : B a b) (k : B b c) : B a c := ⟨h.below.trans (k.below.mono h.below.size)⟩
theorem B.drew {a w : World} (h : B a w) : B a w.drew := ⟨h.below.drew⟩
theorem B.drewN {a w : World} (h : B a w) (n : Nat) : B a (w.drewN n) := ⟨⟨h.below.os, h.below.tape, h.below.output, h.below.size, h.below.block⟩⟩
theorem B.alloc {a w : World} (h : B a w) (c : Array Value) (t : TypeId) : B a (w.alloc (.cells c t)) := ⟨h.below.alloc h.below.size _⟩
theorem B.setCell {a w : World} (h : B a w) {p : Addr} (hp : a.heap.size ≤ p.block) (v : Value) : B a (w.setCell p v) := ⟨h.below.setCell hp v⟩
theorem B.keep {w w' : World} (h : B w w') {p : Addr} {v : Value} (hc : w.cell? p = some v) : w'.cell? p = some v := by
  rw [h.below.cell (World.block_lt_of_cell? w p hc)]; exact hc
theorem B.unfrozen {w w' : World} (h : B w w') {p : Addr} {v : Value} (hc : w.cell? p = some v) (hf : w.frozen? p = false) : w'.frozen? p = false := by
  rw [h.below.frozen (World.block_lt_of_cell? w p hc)]; exact hf
theorem B.grownBy {a w w' : World} {row : Option Nat} (h : B a w) (g : w.grownBy w' row) (hr : ∀ k, row = some k → a.heap.size ≤ k) : B a w' :=
  ⟨⟨g.os.trans h.below.os, g.tape.trans h.below.tape, g.output.trans h.below.output, Nat.le_trans h.below.size g.size, fun k hk => by
    rw [g.block k (Nat.lt_of_lt_of_le hk h.below.size) (fun e => by have := hr k e.symm; omega)]
    exact h.below.block k hk⟩⟩
end Go.Proofs.YtjdkhobkdlldnaaGreatDoor

namespace Go.Proofs.YtjdkhobkdlldnaaGreatDoor
open Go.RowKit
/-- Bytes lie in block b, from place o on. -/
def BAt (w : World) (b o : Nat) (bs : List UInt8) : Prop := ∀ i c, bs[i]? = some c → w.cell? ⟨b, o + i, none⟩ = some (.int .u8 ((c.toNat : Nat) : Int))
theorem BAt.keep {w w' : World} {b o : Nat} {bs : List UInt8} (h : BAt w b o bs) (q : B w w') : BAt w' b o bs := fun i c hc => q.keep (h i c hc)
/-- The header of a slice of bytes. -/
structure IsB (w : World) (ao : Option Addr) (cap b o : Nat) (bs : List UInt8) : Prop where
  at_ : BAt w b o bs
  ao : 0 < bs.length → ao = some ⟨b, o, none⟩
  le : bs.length ≤ cap
  max : cap ≤ maxLen
theorem IsB.keep {w w' : World} {ao : Option Addr} {cap b o : Nat} {bs : List UInt8} (h : IsB w ao cap b o bs) (q : B w w') : IsB w' ao cap b o bs := ⟨h.at_.keep q, h.ao, h.le, h.max⟩
theorem BAt.drop {w : World} {b o : Nat} {bs : List UInt8} (h : BAt w b o bs) (k : Nat) : BAt w b (o + k) (bs.drop k) := fun i c hc => by
  rw [List.getElem?_drop] at hc
  rw [Nat.add_assoc]
  exact h _ _ hc
theorem BAt.take {w : World} {b o : Nat} {bs : List UInt8} (h : BAt w b o bs) (k : Nat) : BAt w b o (bs.take k) := fun i c hc => by
  rw [List.getElem?_take] at hc
  split at hc
  · exact h _ _ hc
  · cases hc
/-- A string of bytes. -/
def strB (l : List UInt8) : ByteArray := ⟨l.toArray⟩
/-- Words in memory. -/
def IsWords (w : World) (v : Value) (ws : List Wd) : Prop :=
  (v = .slice none 0 0 ∧ ws = []) ∨
  ∃ g cap, v = .slice (some ⟨g, 0, none⟩) ws.length cap ∧ ws.length ≤ cap ∧ cap ≤ maxLen ∧ ∀ i x, ws[i]? = some x → w.cell? ⟨g, i * 2, none⟩ = some (.int .i64 ((x.1 : Nat) : Int)) ∧ w.cell? ⟨g, i * 2 + 1, none⟩ = some (.string (strB x.2))
theorem IsWords.form {w : World} {v : Value} {ws : List Wd} (h : IsWords w v ws) : ∃ ao cap, v = .slice ao ws.length cap := by
  rcases h with ⟨rfl, rfl⟩ | ⟨g, cap, rfl, _⟩ <;> exact ⟨_, _, rfl⟩
/-- Words stay where their block stays. -/
theorem IsWords.block {w w' : World} {v : Value} {ws : List Wd} (h : IsWords w v ws) (hb : ∀ b, v.ownBlock = some b → b < w.heap.size → w'.heap[b]? = w.heap[b]?) : IsWords w' v ws := by
  rcases h with h | ⟨g, cap, rfl, h2, h3, h4⟩
  · exact .inl h
  · refine .inr ⟨g, cap, rfl, h2, h3, fun i x hx => ?_⟩
    obtain ⟨k1, k2⟩ := h4 i x hx
    have hlt := World.block_lt_of_cell? w _ k1
    have e := hb g rfl hlt
    exact ⟨(World.cell?_of_block (a := ⟨g, i * 2, none⟩) e).trans k1, (World.cell?_of_block (a := ⟨g, i * 2 + 1, none⟩) e).trans k2⟩
theorem IsWords.keep {w w' : World} {v : Value} {ws : List Wd} (h : IsWords w v ws) (q : B w w') : IsWords w' v ws := h.block fun b _ hlt => q.below.block b hlt
/-- Lines of words, in a row that the call owns. -/
structure LinesO (w : World) (base : Nat) (e : TypeId) (v : Value) (LL : List (List Wd)) (vs : List Value) : Prop where
  own : w.ownsRow base e 1 v LL.length vs
  row : ∀ (j : Nat) u L, vs[j]? = some u → LL[j]? = some L → IsWords w u L ∧ ∃ b, u.ownBlock = some b ∧ v.ownBlock ≠ some b ∧ b < w.heap.size ∧ base ≤ b
theorem LinesO.nil (w : World) (base : Nat) (e : TypeId) : LinesO w base e (.slice none 0 0) [] [] := ⟨World.ownsRow_nil _ _ _ _, fun j u L h => by simp at h⟩
theorem lines_keep {w w' : World} {base : Nat} {e : TypeId} {v : Value} {LL : List (List Wd)} {vs : List Value} (h : LinesO w base e v LL vs) {row : Option Nat} (q : w.grownBy w' row)
    (hv : ∀ b, row = some b → v.ownBlock ≠ some b) (hs : ∀ b, row = some b → ∀ u ∈ vs, u.ownBlock ≠ some b) : LinesO w' base e v LL vs := by
  refine ⟨h.own.kept (row := row) q ?_, fun j u L hu hL => ?_⟩
  · cases hb : v.ownBlock with
    | none => exact .inl rfl
    | some b => exact .inr fun e => hv b e.symm hb
  · obtain ⟨h1, b, h2, h3, h4, h5⟩ := h.row j u L hu hL
    exact ⟨h1.block fun b' hb' hlt => q.block b' hlt (fun e => hs b' e.symm u (List.mem_of_getElem? hu) hb'), b, h2, h3, Nat.lt_of_lt_of_le h4 q.size, h5⟩
theorem B.none {w w' : World} (q : B w w') : w.grownBy w' none := ⟨q.below.os, q.below.tape, q.below.output, q.below.size, fun k hk _ => q.below.block k hk⟩
theorem row_keep {w w' : World} {base : Nat} {e : TypeId} {size n : Nat} {v : Value} {xs : List Value} (h : w.ownsRow base e size v n xs) (q : B w w') : w'.ownsRow base e size v n xs :=
  h.kept (row := none) q.none (by cases v.ownBlock <;> simp)
theorem addz (b j : Nat) : (⟨b, 0, none⟩ : Addr).add j = ⟨b, j, none⟩ := by unfold Addr.add; split <;> simp_all
/-- Cells of a new block. -/
theorem newest {w : World} {cs : Array Value} {t : TypeId} {H : Nat} (hH : w.heap.size = H) : ∀ j u, cs.toList[j]? = some u → (w.alloc (.cells cs t)).cell? ((⟨H, 0, none⟩ : Addr).add j) = some u := by
  intro j u h
  rw [addz]
  subst hH
  rw [World.cell?_alloc_new]
  simpa using h
theorem info_of {P : Program} {t : TypeId} {z : Value} {s b : Nat} (h : (P.info? t).map (fun i => (i.zero, i.size, i.bytes)) = some (some z, s, b)) : ∃ i, P.info? t = some i ∧ i.zero = some z ∧ i.size = s ∧ i.bytes = b := by
  cases hi : P.info? t with
  | none => rw [hi] at h; cases h
  | some i => rw [hi] at h; simp at h; exact ⟨i, rfl, h.1, h.2.1, h.2.2⟩
theorem LinesO.keep {w w' : World} {base : Nat} {e : TypeId} {v : Value} {LL : List (List Wd)} {vs : List Value} (h : LinesO w base e v LL vs) (q : B w w') : LinesO w' base e v LL vs :=
  lines_keep h q.none (fun b hb => by cases hb) (fun b hb => by cases hb)
theorem LinesO.len {w : World} {base : Nat} {e : TypeId} {v : Value} {LL : List (List Wd)} {vs : List Value} (h : LinesO w base e v LL vs) : vs.length = LL.length := by
  have := h.own.1
  omega
/-- Lines of words in memory. -/
def IsLines (w : World) (v : Value) (LL : List (List Wd)) : Prop :=
  (v = .slice none 0 0 ∧ LL = []) ∨
  ∃ g cap, v = .slice (some ⟨g, 0, none⟩) LL.length cap ∧ LL.length ≤ cap ∧ cap ≤ maxLen ∧ ∀ i L, LL[i]? = some L → ∃ u, w.cell? ⟨g, i, none⟩ = some u ∧ IsWords w u L
theorem IsLines.keep {w w' : World} {v : Value} {LL : List (List Wd)} (h : IsLines w v LL) (q : B w w') : IsLines w' v LL := by
  rcases h with h | ⟨g, cap, h1, h2, h3, h4⟩
  · exact .inl h
  · exact .inr ⟨g, cap, h1, h2, h3, fun i L hL => by obtain ⟨u, k1, k2⟩ := h4 i L hL; exact ⟨u, q.keep k1, k2.keep q⟩⟩
theorem IsLines.form {w : World} {v : Value} {LL : List (List Wd)} (h : IsLines w v LL) : ∃ ao cap, v = .slice ao LL.length cap := by
  rcases h with ⟨rfl, rfl⟩ | ⟨g, cap, rfl, _⟩ <;> exact ⟨_, _, rfl⟩
theorem LinesO.is {w : World} {base : Nat} {e : TypeId} {v : Value} {LL : List (List Wd)} {vs : List Value} (h : LinesO w base e v LL vs) : IsLines w v LL := by
  have hown := h.own
  rcases hown.2 with ⟨h0, h1⟩ | ⟨g, cap, cur, rfl, _, _, h1, h2, _⟩
  · exact .inl ⟨h0, List.length_eq_zero_iff.1 (by omega)⟩
  · refine .inr ⟨g, cap, rfl, h1, h2, fun i L hL => ?_⟩
    have hi : i < LL.length := (List.getElem?_eq_some_iff.1 hL).1
    have hlen := h.len
    have hu : vs[i]? = some vs[i] := List.getElem?_eq_getElem (by omega)
    exact ⟨_, (hown.cellAt i (by omega)).trans hu, (h.row i _ L hu hL).1⟩
end Go.Proofs.YtjdkhobkdlldnaaGreatDoor

namespace Go.Proofs.YtjdkhobkdlldnaaGreatDoor
open Go.RowKit
/-- Those that must come before, as bits. -/
def amOf (md : Region.Mode) (o : Oper) : Nat := o.after.toList.foldr (fun e m => if Region.binds md e then m ||| 2 ^ e.on else m) 0
/-- Those that touch the same slots and don't wait for it, as bits. -/
def cfOf (md : Region.Mode) (ops : Array Oper) (oi : Oper) (i : Nat) : List Oper → Nat → Nat
  | [], _ => 0
  | oj :: l, j => (if j == i || (amOf md oj).testBit i || oi.apart ops oj then 0 else 2 ^ j) ||| cfOf md ops oi i l (j + 1)
def cfAll (md : Region.Mode) (ops : Array Oper) : List Oper → Nat → List Nat
  | [], _ => []
  | oi :: l, i => cfOf md ops oi i ops.toList 0 :: cfAll md ops l (i + 1)
/-- May they come up so? 0: taken; 1: passed over; 2: the only one that may come up. -/
def seqOk (n : Nat) (am cf : List Nat) : List (Nat × Nat) → Nat → Bool
  | [], done => (List.range n).all done.testBit
  | (i, k) :: l, done => decide (i < n) && !done.testBit i && (am.getD i 0 &&& done == am.getD i 0) &&
      (if k < 2 then (cf.getD i 0 &&& done == cf.getD i 0) else (List.range n).all (fun j => j == i || done.testBit j || !(am.getD j 0 &&& done == am.getD j 0))) && seqOk n am cf l (done ||| 2 ^ i)
def wpSeq (P : Program) (ops : Array Oper) (Q : Exit → Act → World → Prop) (S : World → Prop) : List (Nat × Nat) → Act → World → Prop
  | [], a, w => Q .normal a w
  | (i, k) :: l, a, w => ∃ o, ops[i]? = some o ∧
      (if k = 0 then ∃ v, (Region.wanted o (yielded ops a.tmps) = true ∧ ∀ w, S w → (execOp a.eval o).run P w = .ok (.value v) w) ∧ wpSeq P ops Q S l (a.put o.dst v) w
      else if k = 1 then Region.wanted o (yielded ops a.tmps) = false ∧ wpSeq P ops Q S l (a.put o.dst undef) w
      else wpOp P ops Q i (fun a' w' => S w' ∧ wpSeq P ops Q S l a' w') a w)
theorem testBit_pow (a b : Nat) : (2 ^ a).testBit b = decide (a = b) := Nat.testBit_two_pow
theorem amOf_bit (md : Region.Mode) (o : Oper) (k : Nat) : (amOf md o).testBit k = true ↔ ∃ e ∈ o.after, Region.binds md e = true ∧ e.on = k := by
  have h : ∀ l : List Edge, (l.foldr (fun e m => if Region.binds md e then m ||| 2 ^ e.on else m) 0).testBit k = true ↔ ∃ e ∈ l, Region.binds md e = true ∧ e.on = k := by
    intro l
    induction l with
    | nil => simp
    | cons e l ih =>
      rw [List.foldr_cons]
      by_cases hb : Region.binds md e = true
      · rw [if_pos hb, Nat.testBit_or, Bool.or_eq_true, ih, testBit_pow]
        simp [hb]
        constructor
        · rintro (h | h)
          · exact Or.inr h
          · exact Or.inl h
        · rintro (h | h)
          · exact Or.inr h
          · exact Or.inl h
      · rw [if_neg hb, ih]
        simp [hb]
  unfold amOf
  rw [h]
  simp
theorem sub_bits {a b : Nat} (h : (a &&& b == a) = true) (k : Nat) (hk : a.testBit k = true) : b.testBit k = true := by
  have e : a &&& b = a := by simpa using h
  rw [← e, Nat.testBit_and, Bool.and_eq_true] at hk
  exact hk.2
theorem bits_sub {a b : Nat} (h : ∀ k, a.testBit k = true → b.testBit k = true) : (a &&& b == a) = true := by
  rw [beq_iff_eq]
  refine Nat.eq_of_testBit_eq fun k => ?_
  rw [Nat.testBit_and]
  cases e : a.testBit k
  · rfl
  · rw [h k e]; rfl
theorem cfOf_bit (md : Region.Mode) (ops : Array Oper) (oi : Oper) (i j : Nat) (oj : Oper) (hji : j ≠ i) (hn : (amOf md oj).testBit i = false) (ha : oi.apart ops oj = false) :
    ∀ (l : List Oper) (s k : Nat), l[k]? = some oj → s + k = j → (cfOf md ops oi i l s).testBit j = true
  | [], _, _, h, _ => by simp at h
  | o :: l, s, 0, h, e => by
    simp at h e
    subst h e
    unfold cfOf
    rw [Nat.testBit_or, if_neg (by simp [hji, hn, ha]), testBit_pow]
    simp
  | o :: l, s, k + 1, h, e => by
    unfold cfOf
    rw [Nat.testBit_or, cfOf_bit md ops oi i j oj hji hn ha l (s + 1) k (by simpa using h) (by omega)]
    simp
theorem cfAll_get (md : Region.Mode) (ops : Array Oper) : ∀ (l : List Oper) (s k : Nat) (o : Oper), l[k]? = some o → (cfAll md ops l s)[k]? = some (cfOf md ops o (s + k) ops.toList 0)
  | [], _, _, _, h => by simp at h
  | o :: l, s, 0, _, h => by simp at h; subst h; simp [cfAll]
  | _ :: l, s, k + 1, o, h => by
    unfold cfAll
    rw [List.getElem?_cons_succ, cfAll_get md ops l (s + 1) k o (by simpa using h)]
    congr 2
    omega
/-- The list of those that have come up, and its bits. -/
structure Inv (n : Nat) (listed : Array Bool) (done : Nat) : Prop where
  size : listed.size = n
  get : ∀ j, j < n → listed[j]? = some (done.testBit j)
  far : ∀ j, n ≤ j → done.testBit j = false
theorem Inv.getF {n done j : Nat} {listed : Array Bool} (h : Inv n listed done) : listed.getD j false = done.testBit j := by
  by_cases c : j < n
  · rw [Array.getD_eq_getD_getElem?, h.get j c]; rfl
  · rw [Array.getD_eq_getD_getElem?, Array.getElem?_eq_none (by rw [h.size]; omega), h.far j (by omega)]; rfl
theorem Inv.getT {n done j : Nat} {listed : Array Bool} (h : Inv n listed done) (c : j < n) : listed.getD j true = done.testBit j := by
  rw [Array.getD_eq_getD_getElem?, h.get j c]; rfl
theorem Inv.set {n done i : Nat} {listed : Array Bool} (h : Inv n listed done) (hi : i < n) : Inv n (listed.setIfInBounds i true) (done ||| 2 ^ i) where
  size := by rw [Array.size_setIfInBounds, h.size]
  get j hj := by
    rw [Array.getElem?_setIfInBounds, Nat.testBit_or, testBit_pow]
    by_cases e : i = j
    · subst e; simp [h.size, hj]
    · rw [if_neg e, h.get j hj]; simp [e]
  far j hj := by
    rw [Nat.testBit_or, testBit_pow, h.far j hj]
    simp; omega
theorem Inv.start (n : Nat) : Inv n (Array.replicate n false) 0 where
  size := by simp
  get j hj := by simp [hj]
  far j _ := by simp
theorem wpAnyH_seq {P : Program} {md : Region.Mode} {ops : Array Oper} {Q : Exit → Act → World → Prop} {S : World → Prop} (am cf : List Nat)
    (ham : ops.toList.map (amOf md) = am) (hcf : cfAll md ops ops.toList 0 = cf) (hs : Region.noSelect ops = true)
    (hQ : ∀ c a w d v, Q (.panic c) (Act.put a d v) w → Q (.panic c) a w) :
    ∀ (l : List (Nat × Nat)) (done : Nat) (listed : Array Bool) (a : Act) (w : World), Inv ops.size listed done → seqOk ops.size am cf l done = true → S w →
      wpSeq P ops Q S l a w → wpAnyH P md ops Q S l.length listed a w := by
  have am_get : ∀ (i : Nat) (o : Oper), ops[i]? = some o → am.getD i 0 = amOf md o := by
    intro i o ho
    rw [← ham, List.getD_eq_getElem?_getD, List.getElem?_map, Array.getElem?_toList, ho]; rfl
  have cf_get : ∀ (i : Nat) (o : Oper), ops[i]? = some o → cf.getD i 0 = cfOf md ops o i ops.toList 0 := by
    intro i o ho
    rw [← hcf, List.getD_eq_getElem?_getD, cfAll_get md ops ops.toList 0 i o (by rw [Array.getElem?_toList]; exact ho), Nat.zero_add]; rfl
  have is_ready : ∀ (i done : Nat) (listed : Array Bool) (o : Oper), Inv ops.size listed done → ops[i]? = some o → done.testBit i = false → (am.getD i 0 &&& done == am.getD i 0) = true → i ∈ Region.ready md ops listed := by
    intro i done listed o hI ho hd ha
    have hin : i < ops.size := (Array.getElem?_eq_some_iff.1 ho).1
    refine mem_ready.2 ⟨by rw [hI.getT hin]; exact hd, o, ho, fun e he hb => ?_⟩
    rw [hI.getF]
    rw [am_get i o ho] at ha
    exact sub_bits ha e.on ((amOf_bit md o e.on).2 ⟨e, he, hb, rfl⟩)
  have ready_is : ∀ (i done : Nat) (listed : Array Bool), Inv ops.size listed done → i ∈ Region.ready md ops listed → i < ops.size ∧ done.testBit i = false ∧ (am.getD i 0 &&& done == am.getD i 0) = true := by
    intro i done listed hI hr
    obtain ⟨h1, o, ho, h2⟩ := mem_ready.1 hr
    have hin : i < ops.size := (Array.getElem?_eq_some_iff.1 ho).1
    refine ⟨hin, by rw [← hI.getT hin]; exact h1, ?_⟩
    rw [am_get i o ho]
    refine bits_sub fun k hk => ?_
    obtain ⟨e, he, hb, rfl⟩ := (amOf_bit md o k).1 hk
    rw [← hI.getF]
    exact h2 e he hb
  intro l
  induction l with
  | nil =>
    intro done listed a w hI hk _ h
    refine ⟨?_, h⟩
    refine List.eq_nil_iff_forall_not_mem.2 fun i hi => ?_
    obtain ⟨h1, h2, _⟩ := ready_is i done listed hI hi
    have := List.all_eq_true.1 hk i (List.mem_range.2 h1)
    rw [h2] at this
    cases this
  | cons x l ih =>
    obtain ⟨i, k⟩ := x
    intro done listed a w hI hk hS h
    unfold seqOk at hk
    simp only [Bool.and_eq_true, decide_eq_true_eq, Bool.not_eq_true'] at hk
    obtain ⟨⟨⟨⟨k1, k2⟩, k3⟩, k4⟩, k5⟩ := hk
    obtain ⟨o, ho, h⟩ := h
    have hr := is_ready i done listed o hI ho k2 k3
    have hI' := hI.set k1
    have hfree : k < 2 → ∀ j oj, ops[j]? = some oj → j ≠ i → listed.getD j true = false → (∀ e ∈ oj.after, Region.binds md e = true → e.on ≠ i) → o.apart ops oj = true := by
      intro hk2 j oj hj hji hun hno
      rw [if_pos hk2, cf_get i o ho] at k4
      cases c : o.apart ops oj
      · exfalso
        have hjn : j < ops.size := (Array.getElem?_eq_some_iff.1 hj).1
        have hb : (amOf md oj).testBit i = false := by
          cases e : (amOf md oj).testBit i
          · rfl
          · obtain ⟨x, hx, hxb, hxi⟩ := (amOf_bit md oj i).1 e
            exact absurd hxi (hno x hx hxb)
        have := sub_bits k4 j (cfOf_bit md ops o i j oj hji hb c ops.toList 0 j (by rw [Array.getElem?_toList]; exact hj) (Nat.zero_add _))
        rw [hI.getT hjn, this] at hun
        cases hun
      · rfl
    rw [List.length_cons]
    by_cases c0 : k = 0
    · rw [if_pos c0] at h
      obtain ⟨v, ⟨hw, hv⟩, h⟩ := h
      exact wpAnyH_first ho (Region.noSelect_spec hs) (fun c a w h => hQ c a w _ _ h) l.length listed a w (hfree (by omega)) hr (Or.inl ⟨hw, hv⟩) hS (ih _ _ _ _ hI' k5 hS h)
    · rw [if_neg c0] at h
      by_cases c1 : k = 1
      · rw [if_pos c1] at h
        exact wpAnyH_first ho (Region.noSelect_spec hs) (fun c a w h => hQ c a w _ _ h) l.length listed a w (hfree (by omega)) hr (Or.inr ⟨h.1, rfl⟩) hS (ih _ _ _ _ hI' k5 hS h.2)
      · rw [if_neg c1] at h
        refine ⟨fun e => (by rw [e] at hr; cases hr), fun j hj => ?_⟩
        have hji : j = i := by
          obtain ⟨q1, q2, q3⟩ := ready_is j done listed hI hj
          rw [if_neg (by omega)] at k4
          have := List.all_eq_true.1 k4 j (List.mem_range.2 q1)
          rw [q2, q3] at this
          simpa using this
        subst hji
        exact wpOp_mono (fun a' w' h' => ⟨h'.1, ih _ _ _ _ hI' k5 h'.1 h'.2⟩) h
/-- The beginning: the order, and that it may be. -/
theorem wp_region_seq {P : Program} {ops : Array Oper} {Q : Exit → Act → World → Prop} {S : World → Prop} {id : Nat} {a : Act} {w : World} (l : List (Nat × Nat)) (am cf : List Nat) (hm : P.follows .mixedOrders = true)
    (hk : (Region.noSelect ops && decide (l.length = ops.size) && decide (ops.toList.map (amOf .any) = am) && decide (cfAll .any ops ops.toList 0 = cf) && seqOk ops.size am cf l 0) = true)
    (hQ : ∀ c a w d v, Q (.panic c) (Act.put a d v) w → Q (.panic c) a w) (hS : S w.drew)
    (h : S w.drew → wpSeq P ops Q S l a w.drew) : (Code.region id ops true).wp P Q a w := by
  simp only [Bool.and_eq_true, decide_eq_true_eq] at hk
  obtain ⟨⟨⟨⟨h1, h2⟩, h3⟩, h4⟩, h5⟩ := hk
  refine wp_region_held_drew hm hS fun hS => ?_
  rw [← h2]
  have := wpAnyH_seq (P := P) (md := .any) (S := S) am cf h3 h4 h1 hQ l 0 (Array.replicate ops.size false) a w.drew (Inv.start _) h5 hS (h hS)
  rw [h2] at this ⊢
  exact this
/-- Taken: it yields its value in every world that meets S. -/
theorem wpSeq_take {P : Program} {ops : Array Oper} {Q : Exit → Act → World → Prop} {S : World → Prop} {l : List (Nat × Nat)} {t : List Value} {df : List _} {w : World} {i d : Nat} {o : Oper} {v : Value}
    (ho : ops.toList[i]? = some o) (hd : o.dst = some d) (hw : Region.wanted o (yielded ops t.toArray) = true)
    (hy : ∀ w, S w → (execOp (Act.eval { tmps := t.toArray, defers := df }) o).run P w = .ok (.value v) w)
    (h : wpSeq P ops Q S l { tmps := (t.set d v).toArray, defers := df } w) : wpSeq P ops Q S ((i, 0) :: l) { tmps := t.toArray, defers := df } w := by
  refine ⟨o, by rw [← Array.getElem?_toList]; exact ho, ?_⟩
  rw [if_pos rfl]
  refine ⟨v, ⟨hw, hy⟩, ?_⟩
  have e : Act.put { tmps := t.toArray, defers := df } o.dst v = { tmps := (t.set d v).toArray, defers := df } := by
    rw [hd]; simp [Act.put]
  rw [e]
  exact h
/-- Passed over: its slot is empty, and stays so. -/
theorem wpSeq_skip {P : Program} {ops : Array Oper} {Q : Exit → Act → World → Prop} {S : World → Prop} {l : List (Nat × Nat)} {t : List Value} {df : List _} {w : World} {i d : Nat} {o : Oper}
    (ho : ops.toList[i]? = some o) (hd : o.dst = some d) (hw : Region.wanted o (yielded ops t.toArray) = false) (ht : t.set d undef = t)
    (h : wpSeq P ops Q S l { tmps := t.toArray, defers := df } w) : wpSeq P ops Q S ((i, 1) :: l) { tmps := t.toArray, defers := df } w := by
  refine ⟨o, by rw [← Array.getElem?_toList]; exact ho, ?_⟩
  rw [if_neg (by decide), if_pos rfl]
  refine ⟨hw, ?_⟩
  have e : Act.put { tmps := t.toArray, defers := df } o.dst undef = { tmps := t.toArray, defers := df } := by
    rw [hd]; simp [Act.put, ht]
  rw [e]
  exact h
/-- Carried out in the world at hand: S is shown anew behind it. -/
theorem wpSeq_call {P : Program} {ops : Array Oper} {Q : Exit → Act → World → Prop} {S : World → Prop} {l : List (Nat × Nat)} {a : Act} {w : World} {i : Nat} {o : Oper}
    (ho : ops.toList[i]? = some o) (hw : Region.wanted o (yielded ops a.tmps) = true)
    (h : ∀ K' : Act → World → Prop, Shut (∀ a w, S w → (S w → wpSeq P ops Q S l a w) → K' a w) → Oper.wp P o a w K' Q) : wpSeq P ops Q S ((i, 2) :: l) a w := by
  rw [Array.getElem?_toList] at ho
  refine ⟨o, ho, ?_⟩
  rw [if_neg (by decide), if_neg (by decide)]
  refine wpOp_step ho fun K' hK => ?_
  rw [if_pos hw]
  exact h K' fun a w hS h => hK a w ⟨hS, h hS⟩
theorem wpSeq_done {P : Program} {ops : Array Oper} {Q : Exit → Act → World → Prop} {S : World → Prop} {a : Act} {w : World} (h : Q .normal a w) : wpSeq P ops Q S [] a w := h
end Go.Proofs.YtjdkhobkdlldnaaGreatDoor

namespace Go.Proofs.YtjdkhobkdlldnaaGreatDoor
open Go.RowKit
section
variable {P : Program} {ops : Array Oper} {Q : Exit → Act → World → Prop} {md : Region.Mode} {S : World → Prop} {g : Nat}
/-- Nothing has come up ahead of what it waits for. -/
def Closed (md : Region.Mode) (ops : Array Oper) (listed : Array Bool) : Prop :=
  ∀ j oj, ops[j]? = some oj → listed.getD j false = true → ∀ e ∈ oj.after, Region.binds md e = true → listed.getD e.on false = true
theorem getD_set_eq {listed : Array Bool} {i : Nat} (d : Bool) (h : i < listed.size) : (listed.setIfInBounds i true).getD i d = true := by
  rw [Array.getD_eq_getD_getElem?, Array.getElem?_setIfInBounds]; simp [h]
theorem getD_set_other {listed : Array Bool} {i k : Nat} (d : Bool) (h : i ≠ k) : (listed.setIfInBounds i true).getD k d = listed.getD k d := by
  rw [Array.getD_eq_getD_getElem?, Array.getD_eq_getD_getElem?, Array.getElem?_setIfInBounds, if_neg h]
theorem getD_set_grow {listed : Array Bool} {i k : Nat} (h : listed.getD k false = true) : (listed.setIfInBounds i true).getD k false = true := by
  by_cases e : i = k
  · subst e
    by_cases c : i < listed.size
    · exact getD_set_eq _ c
    · rw [Array.getD_eq_getD_getElem?, Array.getElem?_eq_none (by omega)] at h; cases h
  · rw [getD_set_other _ e]; exact h
theorem getD_flip {listed : Array Bool} {i : Nat} (h : listed.getD i true = false) : listed.getD i false = false := by
  by_cases c : i < listed.size
  · simp [c] at h ⊢; exact h
  · rw [Array.getD_eq_getD_getElem?, Array.getElem?_eq_none (by omega)] at h; cases h
theorem Closed.set {listed : Array Bool} (h : Closed md ops listed) {i : Nat} (hr : i ∈ Region.ready md ops listed) : Closed md ops (listed.setIfInBounds i true) := by
  intro j oj hj hl e he hb
  by_cases c : i = j
  · subst c
    obtain ⟨_, o, ho, h2⟩ := mem_ready.1 hr
    obtain rfl := Option.some.inj (ho.symm.trans hj)
    exact getD_set_grow (h2 e he hb)
  · rw [getD_set_other _ c] at hl
    exact getD_set_grow (h j oj hj hl e he hb)
/-- Whatever order is picked: S holds behind every operation but the gate, while the gate has not come up. -/
def wpAnyG (P : Program) (md : Region.Mode) (ops : Array Oper) (Q : Exit → Act → World → Prop) (S : World → Prop) (g : Nat) : Nat → Array Bool → Act → World → Prop
  | 0, listed, a, w => Region.ready md ops listed = [] ∧ Q .normal a w
  | fuel + 1, listed, a, w =>
    (Region.ready md ops listed = [] → Q .normal a w) ∧
    ∀ i ∈ Region.ready md ops listed, wpOp P ops Q i (fun a' w' => (i ≠ g → listed.getD g false = false → S w') ∧ wpAnyG P md ops Q S g fuel (listed.setIfInBounds i true) a' w') a w
theorem wpAny_of_gate : ∀ (fuel : Nat) (listed : Array Bool) (a : Act) (w : World), wpAnyG P md ops Q S g fuel listed a w → wpAny P md ops Q fuel listed a w
  | 0, _, _, _, h => h
  | fuel + 1, _, _, _, h => ⟨h.1, fun i hi => wpOp_mono (fun a' w' h' => wpAny_of_gate fuel _ a' w' h'.2) (h.2 i hi)⟩
/-- The gate comes up behind i. -/
def Behind (md : Region.Mode) (ops : Array Oper) (i g : Nat) : Prop :=
  ∀ listed, Closed md ops listed → listed.getD i true = false → listed.getD g false = false ∧ g ∉ Region.ready md ops listed
theorem wpAnyG_first {i : Nat} {oi : Oper} {v : Value} {T : World → Prop} (hi : ops[i]? = some oi) (hsel : ∀ (j : Nat) (o : Oper) cs b, ops[j]? = some o → o.op ≠ .select cs b) (hig : i ≠ g)
    (hT : (∀ w, T w) ∨ ((∀ w, S w → T w) ∧ Behind md ops i g)) (hQ : ∀ c a w, Q (.panic c) (a.put oi.dst v) w → Q (.panic c) a w) :
    ∀ (fuel : Nat) (listed : Array Bool) (a : Act) (w : World), Closed md ops listed →
      (∀ j oj, ops[j]? = some oj → j ≠ i → listed.getD j true = false → (∀ e ∈ oj.after, Region.binds md e = true → e.on ≠ i) → oi.apart ops oj = true) →
      i ∈ Region.ready md ops listed → YieldsIf P ops T oi v a → T w → (listed.getD g false = false → S w) →
      wpAnyG P md ops Q S g fuel (listed.setIfInBounds i true) (a.put oi.dst v) w → wpAnyG P md ops Q S g (fuel + 1) listed a w := by
  intro fuel
  induction fuel with
  | zero =>
    intro listed a w _ _ hr hy hTw hSw H
    refine ⟨fun h => (by rw [h] at hr; cases hr), fun j hj => ?_⟩
    by_cases hji : j = i
    · subst hji; exact hy.wpOp hi hTw ⟨fun _ h => hSw h, H⟩
    · have := ready_mono hj hji
      rw [H.1] at this
      cases this
  | succ fuel ih =>
    intro listed a w hcl hfree hr hy hTw hSw H
    refine ⟨fun h => (by rw [h] at hr; cases hr), fun j hj => ?_⟩
    by_cases hji : j = i
    · subst hji; exact hy.wpOp hi hTw ⟨fun _ h => hSw h, H⟩
    · have h1 := H.2 j (ready_mono hj hji)
      obtain ⟨hjun, oj, hoj, hall⟩ := mem_ready.1 hj
      have hiun := (mem_ready.1 hr).1
      have hnot : ∀ e ∈ oj.after, Region.binds md e = true → e.on ≠ i := fun e he hb heq => by
        have h1 := hall e he hb
        rw [heq, getD_flip hiun] at h1
        cases h1
      have h2 := wpOp_putIf hoj (hfree j oj hoj hji hjun hnot) (fun cs b => hsel i oi cs b hi) (fun cs b => hsel j oj cs b hoj) hQ hy h1
      have hfree' : ∀ k ok, ops[k]? = some ok → k ≠ i → (listed.setIfInBounds j true).getD k true = false →
          (∀ e ∈ ok.after, Region.binds md e = true → e.on ≠ i) → oi.apart ops ok = true := fun k ok hk hki hun hno => by
        refine hfree k ok hk hki ?_ hno
        by_cases hjk : j = k
        · subst hjk; exact hjun
        · rw [getD_set_other true hjk] at hun; exact hun
      rw [getD_set_other _ hig] at h2
      refine wpOp_mono (fun a' w' h3 => ?_) h2
      have hS' : (listed.setIfInBounds j true).getD g false = false → S w' := fun h => by
        by_cases hjg : j = g
        · subst hjg
          rw [getD_set_eq _ (by
            by_cases c : j < listed.size
            · exact c
            · rw [Array.getD_eq_getD_getElem?, Array.getElem?_eq_none (by omega)] at hjun; cases hjun)] at h
          cases h
        · rw [getD_set_other _ hjg] at h
          exact h3.2.1 hjg h
      have hT' : T w' := by
        rcases hT with hT | ⟨hT, hB⟩
        · exact hT w'
        · obtain ⟨hg1, hg2⟩ := hB listed hcl hiun
          refine hT w' (h3.2.1 (fun e => hg2 (e ▸ hj)) hg1)
      refine ⟨fun h4 h5 => h3.2.1 h4 h5, ih (listed.setIfInBounds j true) a' w' (hcl.set hj) hfree' (ready_mono hr (Ne.symm hji)) h3.1 hT' hS' ?_⟩
      rw [Array.setIfInBounds_comm _ _ hji]
      exact h3.2.2
/-- Those that wait for i, one by one: each waits for an earlier one of them. -/
def laterOk (am : List Nat) (i later : Nat) : Bool :=
  (List.range am.length).all fun d => !later.testBit d || d == i || (List.range d).any fun e => later.testBit e && (am.getD d 0).testBit e
theorem later_unlisted (am : List Nat) (ham : ops.toList.map (amOf md) = am) (i later : Nat) (hl : laterOk am i later = true) (listed : Array Bool) (hcl : Closed md ops listed) (hi : listed.getD i false = false) :
    ∀ d, d < am.length → later.testBit d = true → listed.getD d false = false := by
  intro d
  induction d using Nat.strongRecOn with
  | _ d ih =>
    intro hd hb
    have h := List.all_eq_true.1 hl d (List.mem_range.2 hd)
    rw [hb] at h
    simp only [Bool.not_true, Bool.false_or, Bool.or_eq_true, beq_iff_eq, List.any_eq_true, List.mem_range, Bool.and_eq_true] at h
    rcases h with rfl | ⟨e, he, h1, h2⟩
    · exact hi
    · have hlen : am.length = ops.size := by rw [← ham]; simp
      obtain ⟨o, ho⟩ : ∃ o, ops[d]? = some o := ⟨_, Array.getElem?_eq_getElem (by omega)⟩
      have ea : am.getD d 0 = amOf md o := by
        rw [← ham, List.getD_eq_getElem?_getD, List.getElem?_map, Array.getElem?_toList, ho]; rfl
      rw [ea] at h2
      obtain ⟨x, hx, hxb, hxe⟩ := (amOf_bit md o e).1 h2
      cases c : listed.getD d false
      · rfl
      · have := hcl d o ho c x hx hxb
        rw [hxe, ih e he (by omega) h1] at this
        cases this
theorem behind_of (am : List Nat) (ham : ops.toList.map (amOf md) = am) (i later : Nat) (hl : laterOk am i later = true) (hg : later.testBit g = true) (hgi : g ≠ i) (hgn : g < am.length) : Behind md ops i g := by
  intro listed hcl hi
  refine ⟨later_unlisted am ham i later hl listed hcl (getD_flip hi) g hgn hg, fun hr => ?_⟩
  obtain ⟨_, o, ho, h2⟩ := mem_ready.1 hr
  have h := List.all_eq_true.1 hl g (List.mem_range.2 hgn)
  rw [hg] at h
  simp only [Bool.not_true, Bool.false_or, Bool.or_eq_true, beq_iff_eq, List.any_eq_true, List.mem_range, Bool.and_eq_true] at h
  rcases h with h | ⟨e, he, h1, h3⟩
  · exact hgi h
  · have ea : am.getD g 0 = amOf md o := by
      rw [← ham, List.getD_eq_getElem?_getD, List.getElem?_map, Array.getElem?_toList, ho]; rfl
    rw [ea] at h3
    obtain ⟨x, hx, hxb, hxe⟩ := (amOf_bit md o e).1 h3
    have h4 := h2 x hx hxb
    rw [hxe, later_unlisted am ham i later hl listed hcl (getD_flip hi) e (by omega) h1] at h4
    cases h4
end
/-- May they come up so? 0: taken, by S, ahead of the gate; 1: passed over; 2: the only one that may come up, ahead of the gate; 3: taken, in whatever world; 4: the gate, or behind it: the only one that may come up. -/
def seqOkG (n g : Nat) (am cf later : List Nat) : List (Nat × Nat) → Nat → Bool
  | [], done => (List.range n).all done.testBit
  | (i, k) :: l, done => decide (i < n) && !done.testBit i && (am.getD i 0 &&& done == am.getD i 0) &&
      (if k = 2 ∨ k = 4 then (List.range n).all (fun j => j == i || done.testBit j || !(am.getD j 0 &&& done == am.getD j 0)) else (cf.getD i 0 &&& done == cf.getD i 0) && i != g) &&
      (if k = 0 then laterOk am i (later.getD i 0) && (later.getD i 0).testBit g else if k = 2 then i != g && !done.testBit g else if k = 4 then i == g || done.testBit g else true) && seqOkG n g am cf later l (done ||| 2 ^ i)
def wpSeqG (P : Program) (ops : Array Oper) (Q : Exit → Act → World → Prop) (S : World → Prop) : List (Nat × Nat) → Act → World → Prop
  | [], a, w => Q .normal a w
  | (i, k) :: l, a, w => ∃ o, ops[i]? = some o ∧
      (if k = 0 then ∃ v, (Region.wanted o (yielded ops a.tmps) = true ∧ ∀ w, S w → (execOp a.eval o).run P w = .ok (.value v) w) ∧ wpSeqG P ops Q S l (a.put o.dst v) w
      else if k = 1 then Region.wanted o (yielded ops a.tmps) = false ∧ wpSeqG P ops Q S l (a.put o.dst undef) w
      else if k = 2 then wpOp P ops Q i (fun a' w' => S w' ∧ wpSeqG P ops Q S l a' w') a w
      else if k = 3 then ∃ v, (Region.wanted o (yielded ops a.tmps) = true ∧ ∀ w, (execOp a.eval o).run P w = .ok (.value v) w) ∧ wpSeqG P ops Q S l (a.put o.dst v) w
      else k = 4 ∧ wpOp P ops Q i (fun a' w' => wpSeqG P ops Q S l a' w') a w)
theorem wpAnyG_seq {P : Program} {md : Region.Mode} {ops : Array Oper} {Q : Exit → Act → World → Prop} {S : World → Prop} (g : Nat) (am cf later : List Nat) (hgn : g < ops.size)
    (ham : ops.toList.map (amOf md) = am) (hcf : cfAll md ops ops.toList 0 = cf) (hs : Region.noSelect ops = true)
    (hQ : ∀ c a w d v, Q (.panic c) (Act.put a d v) w → Q (.panic c) a w) :
    ∀ (l : List (Nat × Nat)) (done : Nat) (listed : Array Bool) (a : Act) (w : World), Inv ops.size listed done → Closed md ops listed → seqOkG ops.size g am cf later l done = true → (done.testBit g = false → S w) →
      wpSeqG P ops Q S l a w → wpAnyG P md ops Q S g l.length listed a w := by
  have am_get : ∀ (i : Nat) (o : Oper), ops[i]? = some o → am.getD i 0 = amOf md o := by
    intro i o ho
    rw [← ham, List.getD_eq_getElem?_getD, List.getElem?_map, Array.getElem?_toList, ho]; rfl
  have am_len : am.length = ops.size := by rw [← ham]; simp
  have cf_get : ∀ (i : Nat) (o : Oper), ops[i]? = some o → cf.getD i 0 = cfOf md ops o i ops.toList 0 := by
    intro i o ho
    rw [← hcf, List.getD_eq_getElem?_getD, cfAll_get md ops ops.toList 0 i o (by rw [Array.getElem?_toList]; exact ho), Nat.zero_add]; rfl
  have is_ready : ∀ (i done : Nat) (listed : Array Bool) (o : Oper), Inv ops.size listed done → ops[i]? = some o → done.testBit i = false → (am.getD i 0 &&& done == am.getD i 0) = true → i ∈ Region.ready md ops listed := by
    intro i done listed o hI ho hd ha
    have hin : i < ops.size := (Array.getElem?_eq_some_iff.1 ho).1
    refine mem_ready.2 ⟨by rw [hI.getT hin]; exact hd, o, ho, fun e he hb => ?_⟩
    rw [hI.getF]
    rw [am_get i o ho] at ha
    exact sub_bits ha e.on ((amOf_bit md o e.on).2 ⟨e, he, hb, rfl⟩)
  have ready_is : ∀ (i done : Nat) (listed : Array Bool), Inv ops.size listed done → i ∈ Region.ready md ops listed → i < ops.size ∧ done.testBit i = false ∧ (am.getD i 0 &&& done == am.getD i 0) = true := by
    intro i done listed hI hr
    obtain ⟨h1, o, ho, h2⟩ := mem_ready.1 hr
    have hin : i < ops.size := (Array.getElem?_eq_some_iff.1 ho).1
    refine ⟨hin, by rw [← hI.getT hin]; exact h1, ?_⟩
    rw [am_get i o ho]
    refine bits_sub fun k hk => ?_
    obtain ⟨e, he, hb, rfl⟩ := (amOf_bit md o k).1 hk
    rw [← hI.getF]
    exact h2 e he hb
  intro l
  induction l with
  | nil =>
    intro done listed a w hI _ hk _ h
    refine ⟨?_, h⟩
    refine List.eq_nil_iff_forall_not_mem.2 fun i hi => ?_
    obtain ⟨h1, h2, _⟩ := ready_is i done listed hI hi
    have := List.all_eq_true.1 hk i (List.mem_range.2 h1)
    rw [h2] at this
    cases this
  | cons x l ih =>
    obtain ⟨i, k⟩ := x
    intro done listed a w hI hcl hk hS h
    unfold seqOkG at hk
    simp only [Bool.and_eq_true, decide_eq_true_eq, Bool.not_eq_true'] at hk
    obtain ⟨⟨⟨⟨⟨k1, k2⟩, k3⟩, k4⟩, k5⟩, k6⟩ := hk
    obtain ⟨o, ho, h⟩ := h
    have hr := is_ready i done listed o hI ho k2 k3
    have hI' := hI.set k1
    have hcl' := hcl.set hr
    have gbit : ∀ j, j ≠ g → (done ||| 2 ^ j).testBit g = done.testBit g := fun j hj => by
      rw [Nat.testBit_or, testBit_pow]
      simp [hj]
    have hfree : ¬ (k = 2 ∨ k = 4) → i ≠ g ∧ ∀ j oj, ops[j]? = some oj → j ≠ i → listed.getD j true = false → (∀ e ∈ oj.after, Region.binds md e = true → e.on ≠ i) → o.apart ops oj = true := by
      intro hk2
      rw [if_neg hk2] at k4
      simp only [Bool.and_eq_true, bne_iff_ne] at k4
      refine ⟨k4.2, ?_⟩
      intro j oj hj hji hun hno
      cases c : o.apart ops oj
      · exfalso
        have hjn : j < ops.size := (Array.getElem?_eq_some_iff.1 hj).1
        have hb : (amOf md oj).testBit i = false := by
          cases e : (amOf md oj).testBit i
          · rfl
          · obtain ⟨x, hx, hxb, hxi⟩ := (amOf_bit md oj i).1 e
            exact absurd hxi (hno x hx hxb)
        have k4' := k4.1
        rw [cf_get i o ho] at k4'
        have := sub_bits k4' j (cfOf_bit md ops o i j oj hji hb c ops.toList 0 j (by rw [Array.getElem?_toList]; exact hj) (Nat.zero_add _))
        rw [hI.getT hjn, this] at hun
        cases hun
      · rfl
    have only : (k = 2 ∨ k = 4) → ∀ j ∈ Region.ready md ops listed, j = i := by
      intro hk2 j hj
      rw [if_pos hk2] at k4
      obtain ⟨q1, q2, q3⟩ := ready_is j done listed hI hj
      have := List.all_eq_true.1 k4 j (List.mem_range.2 q1)
      rw [q2, q3] at this
      simpa using this
    have hSl : listed.getD g false = false → S w := fun hg => hS (by rw [← hI.getF]; exact hg)
    rw [List.length_cons]
    by_cases c0 : k = 0
    · subst c0
      obtain ⟨hig, hfr⟩ := hfree (by omega)
      rw [if_pos rfl] at h k5
      simp only [Bool.and_eq_true] at k5
      obtain ⟨v, ⟨hw, hv⟩, h⟩ := h
      have hB := behind_of (g := g) am ham i (later.getD i 0) k5.1 k5.2 (Ne.symm hig) (by omega)
      obtain ⟨hg1, _⟩ := hB listed hcl (mem_ready.1 hr).1
      exact wpAnyG_first (T := S) ho (Region.noSelect_spec hs) hig (.inr ⟨fun _ h => h, hB⟩) (fun c a w h => hQ c a w _ _ h) l.length listed a w hcl hfr hr (Or.inl ⟨hw, hv⟩) (hSl hg1) hSl
        (ih _ _ _ _ hI' hcl' k6 (fun hg => hSl hg1) h)
    rw [if_neg c0] at h
    by_cases c1 : k = 1
    · subst c1
      obtain ⟨hig, hfr⟩ := hfree (by omega)
      rw [if_pos rfl] at h
      exact wpAnyG_first (T := fun _ => True) ho (Region.noSelect_spec hs) hig (.inl fun _ => trivial) (fun c a w h => hQ c a w _ _ h) l.length listed a w hcl hfr hr (Or.inr ⟨h.1, rfl⟩) trivial hSl
        (ih _ _ _ _ hI' hcl' k6 (fun hg => hS (by rw [gbit i hig] at hg; exact hg)) h.2)
    rw [if_neg c1] at h
    by_cases c2 : k = 2
    · subst c2
      rw [if_pos rfl] at h
      simp only [if_neg c0, if_true, Bool.and_eq_true, bne_iff_ne, Bool.not_eq_true'] at k5
      refine ⟨fun e => (by rw [e] at hr; cases hr), fun j hj => ?_⟩
      obtain rfl := only (Or.inl rfl) j hj
      exact wpOp_mono (fun a' w' h' => ⟨fun _ _ => h'.1, ih _ _ _ _ hI' hcl' k6 (fun _ => h'.1) h'.2⟩) h
    rw [if_neg c2] at h
    by_cases c3 : k = 3
    · subst c3
      obtain ⟨hig, hfr⟩ := hfree (by omega)
      rw [if_pos rfl] at h
      obtain ⟨v, ⟨hw, hv⟩, h⟩ := h
      exact wpAnyG_first (T := fun _ => True) ho (Region.noSelect_spec hs) hig (.inl fun _ => trivial) (fun c a w h => hQ c a w _ _ h) l.length listed a w hcl hfr hr (Or.inl ⟨hw, fun w _ => hv w⟩) trivial hSl
        (ih _ _ _ _ hI' hcl' k6 (fun hg => hS (by rw [gbit i hig] at hg; exact hg)) h)
    rw [if_neg c3] at h
    obtain ⟨c4, h⟩ := h
    subst c4
    simp only [if_neg c0, if_neg c2, if_true, Bool.or_eq_true, beq_iff_eq] at k5
    refine ⟨fun e => (by rw [e] at hr; cases hr), fun j hj => ?_⟩
    obtain rfl := only (Or.inr rfl) j hj
    have hdone : (done ||| 2 ^ j).testBit g = true := by
      rw [Nat.testBit_or, testBit_pow]
      rcases k5 with rfl | k5
      · simp
      · rw [k5]; rfl
    have hls : listed.getD g false = false → j = g := fun hg => by
      rcases k5 with k5 | k5
      · exact k5
      · rw [hI.getF, k5] at hg; cases hg
    exact wpOp_mono (fun a' w' h' => ⟨fun hjg hg => absurd (hls hg) hjg, ih _ _ _ _ hI' hcl' k6 (fun hg => by rw [hdone] at hg; cases hg) h'⟩) h
/-- The beginning: the order, and that it may be. -/
theorem wp_region_gate {P : Program} {ops : Array Oper} {Q : Exit → Act → World → Prop} {S : World → Prop} {id : Nat} {a : Act} {w : World} (g : Nat) (l : List (Nat × Nat)) (am cf later : List Nat) (hm : P.follows .mixedOrders = true)
    (hk : (Region.noSelect ops && decide (l.length = ops.size) && decide (g < ops.size) && decide (ops.toList.map (amOf .any) = am) && decide (cfAll .any ops ops.toList 0 = cf) && seqOkG ops.size g am cf later l 0) = true)
    (hQ : ∀ c a w d v, Q (.panic c) (Act.put a d v) w → Q (.panic c) a w) (hS : S w.drew)
    (h : S w.drew → wpSeqG P ops Q S l a w.drew) : (Code.region id ops true).wp P Q a w := by
  simp only [Bool.and_eq_true, decide_eq_true_eq] at hk
  obtain ⟨⟨⟨⟨⟨h1, h2⟩, hg⟩, h3⟩, h4⟩, h5⟩ := hk
  refine wp_region_any hm ?_
  rw [← h2]
  refine wpAny_of_gate (S := S) (g := g) _ _ _ _ ?_
  have := wpAnyG_seq (P := P) (md := .any) (S := S) g am cf later hg h3 h4 h1 hQ l 0 (Array.replicate ops.size false) a w.drew (Inv.start _) (fun j oj hj hl => by
    rw [Array.getD_eq_getD_getElem?, Array.getElem?_replicate] at hl
    split at hl <;> simp at hl) h5 (fun _ => hS) (h hS)
  rw [h2] at this ⊢
  exact this
theorem wpSeqG_take {P : Program} {ops : Array Oper} {Q : Exit → Act → World → Prop} {S : World → Prop} {l : List (Nat × Nat)} {t : List Value} {df : List _} {w : World} {i d : Nat} {o : Oper} {v : Value}
    (ho : ops.toList[i]? = some o) (hd : o.dst = some d) (hw : Region.wanted o (yielded ops t.toArray) = true)
    (hy : ∀ w, S w → (execOp (Act.eval { tmps := t.toArray, defers := df }) o).run P w = .ok (.value v) w)
    (h : wpSeqG P ops Q S l { tmps := (t.set d v).toArray, defers := df } w) : wpSeqG P ops Q S ((i, 0) :: l) { tmps := t.toArray, defers := df } w := by
  refine ⟨o, by rw [← Array.getElem?_toList]; exact ho, ?_⟩
  rw [if_pos rfl]
  refine ⟨v, ⟨hw, hy⟩, ?_⟩
  have e : Act.put { tmps := t.toArray, defers := df } o.dst v = { tmps := (t.set d v).toArray, defers := df } := by
    rw [hd]; simp [Act.put]
  rw [e]
  exact h
theorem wpSeqG_free {P : Program} {ops : Array Oper} {Q : Exit → Act → World → Prop} {S : World → Prop} {l : List (Nat × Nat)} {t : List Value} {df : List _} {w : World} {i d : Nat} {o : Oper} {v : Value}
    (ho : ops.toList[i]? = some o) (hd : o.dst = some d) (hw : Region.wanted o (yielded ops t.toArray) = true)
    (hy : ∀ w, (execOp (Act.eval { tmps := t.toArray, defers := df }) o).run P w = .ok (.value v) w)
    (h : wpSeqG P ops Q S l { tmps := (t.set d v).toArray, defers := df } w) : wpSeqG P ops Q S ((i, 3) :: l) { tmps := t.toArray, defers := df } w := by
  refine ⟨o, by rw [← Array.getElem?_toList]; exact ho, ?_⟩
  rw [if_neg (by decide), if_neg (by decide), if_neg (by decide), if_pos rfl]
  refine ⟨v, ⟨hw, hy⟩, ?_⟩
  have e : Act.put { tmps := t.toArray, defers := df } o.dst v = { tmps := (t.set d v).toArray, defers := df } := by
    rw [hd]; simp [Act.put]
  rw [e]
  exact h
theorem wpSeqG_call {P : Program} {ops : Array Oper} {Q : Exit → Act → World → Prop} {S : World → Prop} {l : List (Nat × Nat)} {a : Act} {w : World} {i : Nat} {o : Oper}
    (ho : ops.toList[i]? = some o) (hw : Region.wanted o (yielded ops a.tmps) = true)
    (h : ∀ K' : Act → World → Prop, Shut (∀ a w, S w → (S w → wpSeqG P ops Q S l a w) → K' a w) → Oper.wp P o a w K' Q) : wpSeqG P ops Q S ((i, 2) :: l) a w := by
  rw [Array.getElem?_toList] at ho
  refine ⟨o, ho, ?_⟩
  rw [if_neg (by decide), if_neg (by decide), if_pos rfl]
  refine wpOp_step ho fun K' hK => ?_
  rw [if_pos hw]
  exact h K' fun a w hS h => hK a w ⟨hS, h hS⟩
theorem wpSeqG_gate {P : Program} {ops : Array Oper} {Q : Exit → Act → World → Prop} {S : World → Prop} {l : List (Nat × Nat)} {a : Act} {w : World} {i : Nat} {o : Oper}
    (ho : ops.toList[i]? = some o) (hw : Region.wanted o (yielded ops a.tmps) = true)
    (h : ∀ K' : Act → World → Prop, Shut (∀ a w, wpSeqG P ops Q S l a w → K' a w) → Oper.wp P o a w K' Q) : wpSeqG P ops Q S ((i, 4) :: l) a w := by
  rw [Array.getElem?_toList] at ho
  refine ⟨o, ho, ?_⟩
  rw [if_neg (by decide), if_neg (by decide), if_neg (by decide), if_neg (by decide)]
  refine ⟨rfl, wpOp_step ho fun K' hK => ?_⟩
  rw [if_pos hw]
  exact h K' fun a w h => hK a w h
theorem wpSeqG_done {P : Program} {ops : Array Oper} {Q : Exit → Act → World → Prop} {S : World → Prop} {a : Act} {w : World} (h : Q .normal a w) : wpSeqG P ops Q S [] a w := h
end Go.Proofs.YtjdkhobkdlldnaaGreatDoor
