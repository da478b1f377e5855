/-
  Layer 16: what the statements ask of the code's parts and strokes; a row of numbers that is read; copy(dst, src) of elements of any size, dst in a row that is known whole. No program is named here; Rows that slices.Repeat makes. No program is named here; A list in new memory: append onto nil of what comes in; Layer 16: a number in parts, as two runs of equal numbers. No program is named here; Regions that draw their order and end by changing what they have read ('t.l = append(t.l, f(t.l[n]))'): one operation is the gate; ahead of it a condition S holds, behind it nothing is asked. One order is walked. No program is named here; Contracts of the library at this translation, laid by the shelf in plain words; slices.Repeat of one number of 64 bits; Append of what comes in onto a row that the call owns. No program is named here.
-/
import Derived.OwnWalk
import Derived.Laws.CopyRow
import Derived.Laws.CopyOwn
import Derived.Laws.IdiomCopy
import Derived.Tactics
import Derived.Below
import Derived.Deep.RegionLaw
import Derived.Maps.AppendAt
import Derived.Shelf.Bits.Mul64
import Derived.Test.YtiblhebenhiijaaProg
import Derived.Lib.ItoaMem
import Derived.Lib.Strings
import Derived.Test.YtiblhebenhiijaaY1
namespace Go.Proofs.Ytiblhebenhiijaa
open Go.RowKit
set_option linter.unusedVariables false
/-- The code's parts, strokes and how many: the document's. -/
structure ChunkC : Prop where
  parts : ∀ (N : ByteArray) (x y z : Int) (sv : Value) (sl : List Sec) (v : Int) (w : World), I64 v → IsSecs w sv sl →
    Calls Try.prog 10 #[.agg #[.string N, .int .i64 x, .int .i64 y, .int .i64 z, sv], .int .i64 v] w (PartsRes ⟨N, x, y, z, sl⟩ v w)
  strokes : ∀ (v : Int) (w : World), I64 v → Calls Try.prog 15 #[.int .i64 v] w fun e w' => ∃ s, e = .returned s ∧ RowZ w' w.heap.size s (strokesL v) ∧ B w w'
/-- And its count. -/
structure CountC : Prop where
  count : ∀ (N : ByteArray) (x y z : Int) (sv : Value) (sl : List Sec) (v : Int) (w : World), I64 v → IsSecs w sv sl →
    Calls Try.prog 12 #[.agg #[.string N, .int .i64 x, .int .i64 y, .int .i64 z, sv], .int .i64 v] w fun e w' => e = .returned (cntV (partsX ⟨N, x, y, z, sl⟩ v)) ∧ B w w'
/-- A row of numbers, read. -/
def IsZ (w : World) (o : Option Addr) (l : List Int) : Prop := ∀ i x, l[i]? = some x → ∃ g, o = some ⟨g, 0, none⟩ ∧ w.cell? ⟨g, i, none⟩ = some (.int .i64 x)
theorem IsZ.keep {w w' : World} {o : Option Addr} {l : List Int} (h : IsZ w o l) (q : B w w') : IsZ w' o l := fun i x hx => by
  obtain ⟨g, h1, h2⟩ := h i x hx
  exact ⟨g, h1, q.keep h2⟩
theorem RowZ.isZ {w : World} {base : Nat} {v : Value} {l : List Int} (h : RowZ w base v l) : ∃ o c, v = .slice o l.length c ∧ IsZ w o l := by
  obtain ⟨o, c, rfl, h⟩ := h
  refine ⟨o, c, rfl, fun i x hx => ?_⟩
  have hi : i < l.length := by obtain ⟨h, _⟩ := List.getElem?_eq_some_iff.1 hx; exact h
  obtain ⟨g, rfl, _, _, _⟩ := own_full h (by omega)
  refine ⟨g, rfl, ?_⟩
  rw [World.ownsRow.cellAt h i (by omega)]
  exact flatL_get hx
theorem partsRes_err {t : Rec} {v : Int} {n : Nat} {w w' : World} {e : Ending} (hp : partsX t v = .error n) (h : PartsRes t v w e w') : e = .returned (.tuple #[.slice none 0 0, .int .i64 (n : Int)]) ∧ B w w' := by
  rcases h with ⟨m, h1, h2, h3⟩ | ⟨l, s, h1, _⟩
  · rw [hp] at h1
    obtain rfl : n = m := by injection h1
    exact ⟨h2, h3⟩
  · rw [hp] at h1; cases h1
theorem partsRes_ok {t : Rec} {v : Int} {l : List Int} {w w' : World} {e : Ending} (hp : partsX t v = .ok l) (h : PartsRes t v w e w') : ∃ o cp, e = .returned (.tuple #[.slice o l.length cp, .int .i64 0]) ∧ IsZ w' o l ∧ B w w' := by
  rcases h with ⟨m, h1, _⟩ | ⟨l', s, h1, h2, h3, h4⟩
  · rw [hp] at h1; cases h1
  · rw [hp] at h1
    obtain rfl : l = l' := by injection h1
    obtain ⟨o, cp, rfl, hz⟩ := h3.isZ
    exact ⟨o, cp, h2, hz, h4⟩
theorem ChunkC.err (c : ChunkC) {N : ByteArray} {x y z : Int} {sl : List Sec} {v : Int} {n : Nat} (hI : I64 v) (hp : partsX ⟨N, x, y, z, sl⟩ v = .error n) (sv : Value) (w : World) (hs : IsSecs w sv sl) :
    Calls Try.prog 10 #[.agg #[.string N, .int .i64 x, .int .i64 y, .int .i64 z, sv], .int .i64 v] w fun e w' => e = .returned (.tuple #[.slice none 0 0, .int .i64 (n : Int)]) ∧ B w w' :=
  (c.parts N x y z sv sl v w hI hs).mono fun _ _ h => partsRes_err hp h
theorem ChunkC.ok (c : ChunkC) {N : ByteArray} {x y z : Int} {sl : List Sec} {v : Int} {l : List Int} (hI : I64 v) (hp : partsX ⟨N, x, y, z, sl⟩ v = .ok l) (sv : Value) (w : World) (hs : IsSecs w sv sl) :
    Calls Try.prog 10 #[.agg #[.string N, .int .i64 x, .int .i64 y, .int .i64 z, sv], .int .i64 v] w fun e w' => ∃ o cp, e = .returned (.tuple #[.slice o l.length cp, .int .i64 0]) ∧ IsZ w' o l ∧ B w w' :=
  (c.parts N x y z sv sl v w hI hs).mono fun _ _ h => partsRes_ok hp h
theorem ChunkC.str (c : ChunkC) {v : Int} (hI : I64 v) (w : World) :
    Calls Try.prog 15 #[.int .i64 v] w fun e w' => ∃ o cp, e = .returned (.slice o (strokesL v).length cp) ∧ IsZ w' o (strokesL v) ∧ B w w' :=
  (c.strokes v w hI).mono fun e w' h => by
    obtain ⟨s, h1, h2, h3⟩ := h
    obtain ⟨o, cp, rfl, hz⟩ := h2.isZ
    exact ⟨o, cp, h1, hz, h3⟩
theorem parts_ok {t : Rec} {v : Int} (hok : tipOk t = true) (hv : 1 ≤ v ∧ v ≤ 20000000) : partsX t v =
    if t.x - 4 * t.z < 1 then .error 33
    else if 1000 < (v + (t.x - 4 * t.z) - 1).tdiv (t.x - 4 * t.z) then .error 33
    else .ok (evenL v ((v + (t.x - 4 * t.z) - 1).tdiv (t.x - 4 * t.z)).toNat) := by
  unfold partsX
  rw [if_pos hok, if_pos (by unfold inB; simp only [Bool.and_eq_true, decide_eq_true_eq]; exact hv)]
theorem tip_ok {l : List Sec} {x z : Int} (hl : rightS l = true) (hx : 1 ≤ x ∧ x ≤ 20000000) (hz : 0 ≤ z ∧ z ≤ 10000) : tipOk ⟨⟨#[116]⟩, x, 9000, z, l⟩ = true := by
  unfold tipOk inB
  simp only [hl, Bool.and_eq_true, decide_eq_true_eq, and_true]
  exact ⟨⟨⟨by decide, hx⟩, by decide⟩, hz⟩
end Go.Proofs.Ytiblhebenhiijaa

namespace Go.Proofs.Ytiblhebenhiijaa
open Go.RowKit
theorem run_copy_any {P : Program} (w : World) (dT sT ty elem : TypeId) (g o dLen dCap : Nat) (a : Addr) (sLen sCap size : Nat) (cur : Array Value) (t : TypeId) (cs : List Value) (i : TypeInfo)
    (hu : P.underlying dT = some (.slice elem)) (hi : P.info? elem = some i) (hs : i.size = size)
    (hg : w.heap[g]? = some (.cells cur t (0, 0))) (hn : cs.length = Nat.min sLen dLen * size)
    (hsrc : ∀ j v, cs[j]? = some v → w.cell? (a.add j) = some v) (hfit : o + cs.length ≤ cur.size) (h1 : ∀ v ∈ cs, v.oneCell' = true) :
    (Builtin.copy_ #[dT, sT] ty #[.slice (some ⟨g, o, none⟩) dLen dCap, .slice (some a) sLen sCap]).run P w =
      .ok (goInt (Nat.min sLen dLen)) (w.setRow g (cur.toList.take o ++ cs ++ cur.toList.drop (o + cs.length)).toArray) := by
  have hl := run_loadCells_list (P := P) w a cs hsrc
  have hst := run_storeCells_at P g o t cs 0 cur w hg (by simpa using hfit) h1
  subst hs
  simp [Builtin.copy_, run_underlying hu, Builtin.lenOf, Builtin.firstCells, sizeOf, typeInfo, hi, ← hn, hl, hst]
/-- At the operation. -/
theorem wp_copy_any {P : Program} {w : World} {o : Oper} {a : Act} {K : Act → World → Prop} {Q : Exit → Act → World → Prop} (d s : Operand) (dT sT : TypeId)
    (ho : o.op = .call { callee := .builtin .copy, args := #[d, s], argTypes := #[dT, sT] }) (elem : TypeId) (i : TypeInfo) (size : Nat) (hu : P.underlying dT = some (.slice elem)) (hi : P.info? elem = some i) (hs : i.size = size)
    (g off dLen dCap : Nat) (ad : Addr) (sLen sCap : Nat) (hd : a.eval d = .slice (some ⟨g, off, none⟩) dLen dCap) (hsv : a.eval s = .slice (some ad) sLen sCap)
    (cur : Array Value) (t : TypeId) (hg : w.heap[g]? = some (.cells cur t (0, 0))) (cs : List Value) (hn : cs.length = Nat.min sLen dLen * size)
    (hsrc : ∀ j v, cs[j]? = some v → w.cell? (ad.add j) = some v) (hfit : off + cs.length ≤ cur.size) (h1 : ∀ v ∈ cs, v.oneCell' = true) (m : Nat) (hm : Nat.min sLen dLen = m) (B : Nat) (w0 : World) (hb : Below B w0 w) (hBg : B ≤ g)
    (h : ∀ w', w'.heap[g]? = some (.cells (cur.toList.take off ++ cs ++ cur.toList.drop (off + cs.length)).toArray t (0, 0)) → Below B w0 w' → K (a.put o.dst (.int .i64 (m : Int))) w') : Oper.wp P o a w K Q := by
  have hrun := run_copy_any (P := P) w dT sT o.type elem g off dLen dCap ad sLen sCap size cur t cs i hu hi hs hg hn hsrc hfit h1
  rw [hm] at hrun
  have hgo : goInt m = .int .i64 (m : Int) := rfl
  unfold Oper.wp
  simp only [execOp, ho, resolve, invoke, builtin, Sem.run_bind, Sem.run_pure, Result.andThen_ok, List.map_toArray, List.map_cons, List.map_nil, hd, hsv, hrun]
  rw [hgo]
  exact h _ (setRow_heap w g _ _ t _ hg) (below_setRow hb hBg _)
/-- As one operation. -/
theorem wpList_copy_any {P : Program} {w : World} {ops : Array Oper} {rest : List Oper} {o : Oper} {a : Act} {Q : Exit → Act → World → Prop} (hgd : o.guard = none) (d s : Operand) (dT sT : TypeId)
    (ho : o.op = .call { callee := .builtin .copy, args := #[d, s], argTypes := #[dT, sT] }) (elem : TypeId) (i : TypeInfo) (size : Nat) (hu : P.underlying dT = some (.slice elem)) (hi : P.info? elem = some i) (hs : i.size = size)
    (g off dLen dCap : Nat) (ad : Addr) (sLen sCap : Nat) (hd : a.eval d = .slice (some ⟨g, off, none⟩) dLen dCap) (hsv : a.eval s = .slice (some ad) sLen sCap)
    (cur : Array Value) (t : TypeId) (hg : w.heap[g]? = some (.cells cur t (0, 0))) (cs : List Value) (hn : cs.length = Nat.min sLen dLen * size)
    (hsrc : ∀ j v, cs[j]? = some v → w.cell? (ad.add j) = some v) (hfit : off + cs.length ≤ cur.size) (h1 : ∀ v ∈ cs, v.oneCell' = true) (m : Nat) (hm : Nat.min sLen dLen = m) (B : Nat) (w0 : World) (hb : Below B w0 w) (hBg : B ≤ g)
    (h : ∀ w', w'.heap[g]? = some (.cells (cur.toList.take off ++ cs ++ cur.toList.drop (off + cs.length)).toArray t (0, 0)) → Below B w0 w' → wpList P ops Q rest (a.put o.dst (.int .i64 (m : Int))) w') : wpList P ops Q (o :: rest) a w :=
  wpList_plain hgd fun _ hK => wp_copy_any d s dT sT ho elem i size hu hi hs g off dLen dCap ad sLen sCap hd hsv cur t hg cs hn hsrc hfit h1 m hm B w0 hb hBg fun w' h1 h2 => hK _ _ (h w' h1 h2)
end Go.Proofs.Ytiblhebenhiijaa

namespace Go.Proofs.Ytiblhebenhiijaa
open Go.RowKit
set_option linter.unusedVariables false
/-- A list, so many times. -/
def repL (n : Nat) (xs : List Value) : List Value := (List.replicate n xs).flatten
theorem repL_len (n : Nat) (xs : List Value) : (repL n xs).length = n * xs.length := by simp [repL]
theorem repL_add (a b : Nat) (xs : List Value) : repL a xs ++ repL b xs = repL (a + b) xs := by simp [repL, ← List.replicate_append_replicate]
theorem repL_one (xs : List Value) : repL 1 xs = xs := by simp [repL]
theorem repL_mem {n : Nat} {xs : List Value} {u : Value} (h : u ∈ repL n xs) : u ∈ xs := by
  obtain ⟨l, hl, hu⟩ := List.mem_flatten.1 h
  obtain ⟨_, rfl⟩ := List.mem_replicate.1 hl
  exact hu
theorem repL_take {m n : Nat} (h : m ≤ n) (xs : List Value) : (repL n xs).take (m * xs.length) = repL m xs := by
  obtain ⟨k, rfl⟩ : ∃ k, n = m + k := ⟨n - m, by omega⟩
  rw [← repL_add, List.take_append_of_le_length (by rw [repL_len]; exact Nat.le_refl _), List.take_of_length_le (by rw [repL_len]; exact Nat.le_refl _)]
/-- A row under way: its first m elements. -/
structure RepAt (w : World) (base g : Nat) (e : TypeId) (N m : Nat) (xs : List Value) : Prop where
  hb : base ≤ g
  cur : ∃ cur : Array Value, w.heap[g]? = some (.cells cur e (0, 0)) ∧ cur.size = N * xs.length ∧ cur.toList.take (m * xs.length) = repL m xs
theorem RepAt.cells {w : World} {base g : Nat} {e : TypeId} {N m : Nat} {xs : List Value} (h : RepAt w base g e N m xs) {k : Nat} (hk : k ≤ m) : ∀ j v, (repL k xs)[j]? = some v → w.cell? ((⟨g, 0, none⟩ : Addr).add j) = some v := by
  obtain ⟨cur, ho, hs, ht⟩ := h.cur
  intro j v hj
  rw [addz, obj_cell ho, ← Array.getElem?_toList]
  have hl := (List.getElem?_eq_some_iff.1 hj).1
  rw [repL_len] at hl
  have hkm := Nat.mul_le_mul_right xs.length hk
  have e2 : (repL m xs)[j]? = some v := by
    rw [← repL_take hk, List.getElem?_take, if_pos hl] at hj
    exact hj
  rw [← ht, List.getElem?_take, if_pos (by omega)] at e2
  exact e2
theorem RepAt.more {w w' : World} {base g : Nat} {e : TypeId} {N m k : Nat} {xs : List Value} (h : RepAt w base g e N m xs) (hk : m + k ≤ N) {cur : Array Value} (ho : w.heap[g]? = some (.cells cur e (0, 0)))
    (hw : w'.heap[g]? = some (.cells (cur.toList.take (m * xs.length) ++ repL k xs ++ cur.toList.drop (m * xs.length + (repL k xs).length)).toArray e (0, 0))) : RepAt w' base g e N (m + k) xs := by
  obtain ⟨cur', ho', hs, ht⟩ := h.cur
  have : cur = cur' := by rw [ho] at ho'; cases ho'; rfl
  subst this
  refine ⟨h.hb, _, hw, ?_, ?_⟩
  · have h1 := Nat.mul_le_mul_right xs.length hk
    rw [Nat.add_mul] at h1
    simp only [List.size_toArray, List.length_append, List.length_take, List.length_drop, Array.length_toList, repL_len, hs]
    omega
  · rw [ht, repL_add]
    simp only
    rw [List.take_append_of_le_length (by rw [repL_len]; exact Nat.le_refl _), List.take_of_length_le (by rw [repL_len]; exact Nat.le_refl _)]
theorem RepAt.zero {w : World} {base g N c : Nat} {e : TypeId} {S : Nat} {ys xs : List Value} (h : w.ownsRow base e S (.slice (some ⟨g, 0, none⟩) N c) N ys) (hx : xs.length = S) (hc : c = N) : RepAt w base g e N 0 xs := by
  rcases h.2 with ⟨h0, _⟩ | ⟨g', cp, cur, h0, hb, ho, _, _, hs, _⟩
  · simp at h0
  · simp only [Value.slice.injEq, Option.some.injEq, Addr.mk.injEq] at h0
    obtain ⟨⟨rfl, _⟩, _, rfl⟩ := h0
    subst hx
    exact ⟨hb, cur, ho, by rw [hs, hc], by simp [repL]⟩
theorem RepAt.own {w : World} {base g : Nat} {e : TypeId} {N : Nat} {xs : List Value} {size : Nat} (h : RepAt w base g e N N xs) (hx : xs.length = size) (hN : N ≤ maxLen) : w.ownsRow base e size (.slice (some ⟨g, 0, none⟩) N N) N (repL N xs) := by
  obtain ⟨cur, ho, hs, ht⟩ := h.cur
  subst hx
  exact ⟨repL_len _ _, .inr ⟨g, N, cur, rfl, h.hb, ho, Nat.le_refl _, hN, hs, ht⟩⟩
end Go.Proofs.Ytiblhebenhiijaa

namespace Go.Proofs.Ytiblhebenhiijaa
open Go.RowKit
set_option linter.unusedVariables false
/-- A row of cells that comes in: nil, or cells from an address on. -/
def RowIn (w : World) (v : Value) (m : Nat) (news : List Value) : Prop :=
  (v = .slice none 0 0 ∧ m = 0 ∧ news = []) ∨ ∃ (ad : Addr) (c : Nat), v = .slice (some ad) m c ∧ ∀ j u, news[j]? = some u → w.cell? (ad.add j) = some u
theorem RowIn.keepB {w w' : World} {v : Value} {m : Nat} {news : List Value} (h : RowIn w v m news) (q : B w w') : RowIn w' v m news := by
  rcases h with h | ⟨ad, c, h1, h2⟩
  · exact .inl h
  · exact .inr ⟨ad, c, h1, fun j u hj => q.keep (h2 j u hj)⟩
theorem RowIn.form {w : World} {v : Value} {m : Nat} {news : List Value} (h : RowIn w v m news) : ∃ ao cap, v = .slice ao m cap := by
  rcases h with ⟨rfl, rfl, _⟩ | ⟨ad, c, rfl, _⟩
  · exact ⟨_, _, rfl⟩
  · exact ⟨_, _, rfl⟩
theorem ownsRow_form {w : World} {base : Nat} {e : TypeId} {size n : Nat} {v : Value} {xs : List Value} (h : w.ownsRow base e size v n xs) : ∃ o c, v = .slice o n c := by
  rcases h.2 with ⟨rfl, rfl⟩ | ⟨g, cap, cur, rfl, _⟩
  · exact ⟨_, _, rfl⟩
  · exact ⟨_, _, rfl⟩
end Go.Proofs.Ytiblhebenhiijaa

namespace Go.Proofs.Ytiblhebenhiijaa
open Go.RowKit
set_option linter.unusedVariables false
theorem repL_single (n : Nat) (x : Value) : repL n [x] = List.replicate n x := by
  unfold repL
  induction n with
  | zero => rfl
  | succ n ih => rw [List.replicate_succ, List.flatten_cons, ih, List.replicate_succ]; rfl
theorem flat_even {v D : Int} {n M : Nat} (hD : v.tdiv n = D) (hM : v.tmod n = (M : Int)) (hl : M ≤ n) :
    flatL (evenL v n) = repL M [.int .i64 (D + 1)] ++ repL (n - M) [.int .i64 D] := by
  obtain ⟨k, rfl⟩ : ∃ k, n = M + k := ⟨n - M, by omega⟩
  rw [repL_single, repL_single, Nat.add_sub_cancel_left]
  unfold flatL evenL
  rw [List.range_add, List.map_append, List.map_append]
  have ev : ∀ i : Nat, evenAt v (M + k : Nat) i = if (i : Int) < (M : Int) then D + 1 else D := fun i => by unfold evenAt; rw [hD, hM]
  congr 1
  · refine List.eq_replicate_iff.2 ⟨by simp, fun b hb => ?_⟩
    obtain ⟨x, hx, rfl⟩ := List.mem_map.1 hb
    obtain ⟨i, hi, rfl⟩ := List.mem_map.1 hx
    have := List.mem_range.1 hi
    rw [ev, if_pos (by omega)]
  · refine List.eq_replicate_iff.2 ⟨by simp, fun b hb => ?_⟩
    obtain ⟨x, hx, rfl⟩ := List.mem_map.1 hb
    obtain ⟨i, hi, rfl⟩ := List.mem_map.1 hx
    obtain ⟨j, _, rfl⟩ := List.mem_map.1 hi
    rw [ev, if_neg (by omega)]
theorem repL_ones (n : Nat) (x : Int) : ∀ u ∈ repL n [.int .i64 x], u.oneCell' = true := fun u hu => by
  obtain rfl := List.mem_singleton.1 (repL_mem hu)
  rfl
/-- What a call made is a row that comes in. -/
theorem rowIn_own {w : World} {base : Nat} {e : TypeId} {g n c : Nat} {xs : List Value} (h : w.ownsRow base e 1 (.slice (some ⟨g, 0, none⟩) n c) n xs) : RowIn w (.slice (some ⟨g, 0, none⟩) n c) n xs :=
  .inr ⟨_, _, rfl, h.cells (g := g) rfl⟩
end Go.Proofs.Ytiblhebenhiijaa

namespace Go.Proofs.Ytiblhebenhiijaa
open Go.RowKit
section
variable {P : Program} {ops : Array Oper} {Q : Exit → Act → World → Prop} {md : Region.Mode} {S : World → Prop} {g : Nat}
/-- Nothing has come up ahead of what it waits for. -/
def Closed (md : Region.Mode) (ops : Array Oper) (listed : Array Bool) : Prop :=
  ∀ j oj, ops[j]? = some oj → listed.getD j false = true → ∀ e ∈ oj.after, Region.binds md e = true → listed.getD e.on false = true
theorem getD_set_eq {listed : Array Bool} {i : Nat} (d : Bool) (h : i < listed.size) : (listed.setIfInBounds i true).getD i d = true := by
  rw [Array.getD_eq_getD_getElem?, Array.getElem?_setIfInBounds]; simp [h]
theorem getD_set_other {listed : Array Bool} {i k : Nat} (d : Bool) (h : i ≠ k) : (listed.setIfInBounds i true).getD k d = listed.getD k d := by
  rw [Array.getD_eq_getD_getElem?, Array.getD_eq_getD_getElem?, Array.getElem?_setIfInBounds, if_neg h]
theorem getD_set_grow {listed : Array Bool} {i k : Nat} (h : listed.getD k false = true) : (listed.setIfInBounds i true).getD k false = true := by
  by_cases e : i = k
  · subst e
    by_cases c : i < listed.size
    · exact getD_set_eq _ c
    · rw [Array.getD_eq_getD_getElem?, Array.getElem?_eq_none (by omega)] at h; cases h
  · rw [getD_set_other _ e]; exact h
theorem getD_flip {listed : Array Bool} {i : Nat} (h : listed.getD i true = false) : listed.getD i false = false := by
  by_cases c : i < listed.size
  · simp [c] at h ⊢; exact h
  · rw [Array.getD_eq_getD_getElem?, Array.getElem?_eq_none (by omega)] at h; cases h
theorem Closed.set {listed : Array Bool} (h : Closed md ops listed) {i : Nat} (hr : i ∈ Region.ready md ops listed) : Closed md ops (listed.setIfInBounds i true) := by
  intro j oj hj hl e he hb
  by_cases c : i = j
  · subst c
    obtain ⟨_, o, ho, h2⟩ := mem_ready.1 hr
    obtain rfl := Option.some.inj (ho.symm.trans hj)
    exact getD_set_grow (h2 e he hb)
  · rw [getD_set_other _ c] at hl
    exact getD_set_grow (h j oj hj hl e he hb)
/-- Whatever order is picked: S holds behind every operation but the gate, while the gate has not come up. -/
def wpAnyG (P : Program) (md : Region.Mode) (ops : Array Oper) (Q : Exit → Act → World → Prop) (S : World → Prop) (g : Nat) : Nat → Array Bool → Act → World → Prop
  | 0, listed, a, w => Region.ready md ops listed = [] ∧ Q .normal a w
  | fuel + 1, listed, a, w =>
    (Region.ready md ops listed = [] → Q .normal a w) ∧
    ∀ i ∈ Region.ready md ops listed, wpOp P ops Q i (fun a' w' => (i ≠ g → listed.getD g false = false → S w') ∧ wpAnyG P md ops Q S g fuel (listed.setIfInBounds i true) a' w') a w
theorem wpAny_of_gate : ∀ (fuel : Nat) (listed : Array Bool) (a : Act) (w : World), wpAnyG P md ops Q S g fuel listed a w → wpAny P md ops Q fuel listed a w
  | 0, _, _, _, h => h
  | fuel + 1, _, _, _, h => ⟨h.1, fun i hi => wpOp_mono (fun a' w' h' => wpAny_of_gate fuel _ a' w' h'.2) (h.2 i hi)⟩
/-- The gate comes up behind i. -/
def Behind (md : Region.Mode) (ops : Array Oper) (i g : Nat) : Prop :=
  ∀ listed, Closed md ops listed → listed.getD i true = false → listed.getD g false = false ∧ g ∉ Region.ready md ops listed
theorem wpAnyG_first {i : Nat} {oi : Oper} {v : Value} {T : World → Prop} (hi : ops[i]? = some oi) (hsel : ∀ (j : Nat) (o : Oper) cs b, ops[j]? = some o → o.op ≠ .select cs b) (hig : i ≠ g)
    (hT : (∀ w, T w) ∨ ((∀ w, S w → T w) ∧ Behind md ops i g)) (hQ : ∀ c a w, Q (.panic c) (a.put oi.dst v) w → Q (.panic c) a w) :
    ∀ (fuel : Nat) (listed : Array Bool) (a : Act) (w : World), Closed md ops listed →
      (∀ j oj, ops[j]? = some oj → j ≠ i → listed.getD j true = false → (∀ e ∈ oj.after, Region.binds md e = true → e.on ≠ i) → oi.apart ops oj = true) →
      i ∈ Region.ready md ops listed → YieldsIf P ops T oi v a → T w → (listed.getD g false = false → S w) →
      wpAnyG P md ops Q S g fuel (listed.setIfInBounds i true) (a.put oi.dst v) w → wpAnyG P md ops Q S g (fuel + 1) listed a w := by
  intro fuel
  induction fuel with
  | zero =>
    intro listed a w _ _ hr hy hTw hSw H
    refine ⟨fun h => (by rw [h] at hr; cases hr), fun j hj => ?_⟩
    by_cases hji : j = i
    · subst hji; exact hy.wpOp hi hTw ⟨fun _ h => hSw h, H⟩
    · have := ready_mono hj hji
      rw [H.1] at this
      cases this
  | succ fuel ih =>
    intro listed a w hcl hfree hr hy hTw hSw H
    refine ⟨fun h => (by rw [h] at hr; cases hr), fun j hj => ?_⟩
    by_cases hji : j = i
    · subst hji; exact hy.wpOp hi hTw ⟨fun _ h => hSw h, H⟩
    · have h1 := H.2 j (ready_mono hj hji)
      obtain ⟨hjun, oj, hoj, hall⟩ := mem_ready.1 hj
      have hiun := (mem_ready.1 hr).1
      have hnot : ∀ e ∈ oj.after, Region.binds md e = true → e.on ≠ i := fun e he hb heq => by
        have h1 := hall e he hb
        rw [heq, getD_flip hiun] at h1
        cases h1
      have h2 := wpOp_putIf hoj (hfree j oj hoj hji hjun hnot) (fun cs b => hsel i oi cs b hi) (fun cs b => hsel j oj cs b hoj) hQ hy h1
      have hfree' : ∀ k ok, ops[k]? = some ok → k ≠ i → (listed.setIfInBounds j true).getD k true = false →
          (∀ e ∈ ok.after, Region.binds md e = true → e.on ≠ i) → oi.apart ops ok = true := fun k ok hk hki hun hno => by
        refine hfree k ok hk hki ?_ hno
        by_cases hjk : j = k
        · subst hjk; exact hjun
        · rw [getD_set_other true hjk] at hun; exact hun
      rw [getD_set_other _ hig] at h2
      refine wpOp_mono (fun a' w' h3 => ?_) h2
      have hS' : (listed.setIfInBounds j true).getD g false = false → S w' := fun h => by
        by_cases hjg : j = g
        · subst hjg
          rw [getD_set_eq _ (by
            by_cases c : j < listed.size
            · exact c
            · rw [Array.getD_eq_getD_getElem?, Array.getElem?_eq_none (by omega)] at hjun; cases hjun)] at h
          cases h
        · rw [getD_set_other _ hjg] at h
          exact h3.2.1 hjg h
      have hT' : T w' := by
        rcases hT with hT | ⟨hT, hB⟩
        · exact hT w'
        · obtain ⟨hg1, hg2⟩ := hB listed hcl hiun
          refine hT w' (h3.2.1 (fun e => hg2 (e ▸ hj)) hg1)
      refine ⟨fun h4 h5 => h3.2.1 h4 h5, ih (listed.setIfInBounds j true) a' w' (hcl.set hj) hfree' (ready_mono hr (Ne.symm hji)) h3.1 hT' hS' ?_⟩
      rw [Array.setIfInBounds_comm _ _ hji]
      exact h3.2.2
/-- Those that wait for i, one by one: each waits for an earlier one of them. -/
def laterOk (am : List Nat) (i later : Nat) : Bool :=
  (List.range am.length).all fun d => !later.testBit d || d == i || (List.range d).any fun e => later.testBit e && (am.getD d 0).testBit e
theorem later_unlisted (am : List Nat) (ham : ops.toList.map (amOf md) = am) (i later : Nat) (hl : laterOk am i later = true) (listed : Array Bool) (hcl : Closed md ops listed) (hi : listed.getD i false = false) :
    ∀ d, d < am.length → later.testBit d = true → listed.getD d false = false := by
  intro d
  induction d using Nat.strongRecOn with
  | _ d ih =>
    intro hd hb
    have h := List.all_eq_true.1 hl d (List.mem_range.2 hd)
    rw [hb] at h
    simp only [Bool.not_true, Bool.false_or, Bool.or_eq_true, beq_iff_eq, List.any_eq_true, List.mem_range, Bool.and_eq_true] at h
    rcases h with rfl | ⟨e, he, h1, h2⟩
    · exact hi
    · have hlen : am.length = ops.size := by rw [← ham]; simp
      obtain ⟨o, ho⟩ : ∃ o, ops[d]? = some o := ⟨_, Array.getElem?_eq_getElem (by omega)⟩
      have ea : am.getD d 0 = amOf md o := by
        rw [← ham, List.getD_eq_getElem?_getD, List.getElem?_map, Array.getElem?_toList, ho]; rfl
      rw [ea] at h2
      obtain ⟨x, hx, hxb, hxe⟩ := (amOf_bit md o e).1 h2
      cases c : listed.getD d false
      · rfl
      · have := hcl d o ho c x hx hxb
        rw [hxe, ih e he (by omega) h1] at this
        cases this
theorem behind_of (am : List Nat) (ham : ops.toList.map (amOf md) = am) (i later : Nat) (hl : laterOk am i later = true) (hg : later.testBit g = true) (hgi : g ≠ i) (hgn : g < am.length) : Behind md ops i g := by
  intro listed hcl hi
  refine ⟨later_unlisted am ham i later hl listed hcl (getD_flip hi) g hgn hg, fun hr => ?_⟩
  obtain ⟨_, o, ho, h2⟩ := mem_ready.1 hr
  have h := List.all_eq_true.1 hl g (List.mem_range.2 hgn)
  rw [hg] at h
  simp only [Bool.not_true, Bool.false_or, Bool.or_eq_true, beq_iff_eq, List.any_eq_true, List.mem_range, Bool.and_eq_true] at h
  rcases h with h | ⟨e, he, h1, h3⟩
  · exact hgi h
  · have ea : am.getD g 0 = amOf md o := by
      rw [← ham, List.getD_eq_getElem?_getD, List.getElem?_map, Array.getElem?_toList, ho]; rfl
    rw [ea] at h3
    obtain ⟨x, hx, hxb, hxe⟩ := (amOf_bit md o e).1 h3
    have h4 := h2 x hx hxb
    rw [hxe, later_unlisted am ham i later hl listed hcl (getD_flip hi) e (by omega) h1] at h4
    cases h4
end
/-- May they come up so? 0: taken, by S, ahead of the gate; 1: passed over; 2: the only one that may come up, ahead of the gate; 3: taken, in whatever world; 4: the gate, or behind it: the only one that may come up. -/
def seqOkG (n g : Nat) (am cf later : List Nat) : List (Nat × Nat) → Nat → Bool
  | [], done => (List.range n).all done.testBit
  | (i, k) :: l, done => decide (i < n) && !done.testBit i && (am.getD i 0 &&& done == am.getD i 0) &&
      (if k = 2 ∨ k = 4 then (List.range n).all (fun j => j == i || done.testBit j || !(am.getD j 0 &&& done == am.getD j 0)) else (cf.getD i 0 &&& done == cf.getD i 0) && i != g) &&
      (if k = 0 then laterOk am i (later.getD i 0) && (later.getD i 0).testBit g else if k = 2 then i != g && !done.testBit g else if k = 4 then i == g || done.testBit g else true) && seqOkG n g am cf later l (done ||| 2 ^ i)
def wpSeqG (P : Program) (ops : Array Oper) (Q : Exit → Act → World → Prop) (S : World → Prop) : List (Nat × Nat) → Act → World → Prop
  | [], a, w => Q .normal a w
  | (i, k) :: l, a, w => ∃ o, ops[i]? = some o ∧
      (if k = 0 then ∃ v, (Region.wanted o (yielded ops a.tmps) = true ∧ ∀ w, S w → (execOp a.eval o).run P w = .ok (.value v) w) ∧ wpSeqG P ops Q S l (a.put o.dst v) w
      else if k = 1 then Region.wanted o (yielded ops a.tmps) = false ∧ wpSeqG P ops Q S l (a.put o.dst undef) w
      else if k = 2 then wpOp P ops Q i (fun a' w' => S w' ∧ wpSeqG P ops Q S l a' w') a w
      else if k = 3 then ∃ v, (Region.wanted o (yielded ops a.tmps) = true ∧ ∀ w, (execOp a.eval o).run P w = .ok (.value v) w) ∧ wpSeqG P ops Q S l (a.put o.dst v) w
      else k = 4 ∧ wpOp P ops Q i (fun a' w' => wpSeqG P ops Q S l a' w') a w)
theorem wpAnyG_seq {P : Program} {md : Region.Mode} {ops : Array Oper} {Q : Exit → Act → World → Prop} {S : World → Prop} (g : Nat) (am cf later : List Nat) (hgn : g < ops.size)
    (ham : ops.toList.map (amOf md) = am) (hcf : cfAll md ops ops.toList 0 = cf) (hs : Region.noSelect ops = true)
    (hQ : ∀ c a w d v, Q (.panic c) (Act.put a d v) w → Q (.panic c) a w) :
    ∀ (l : List (Nat × Nat)) (done : Nat) (listed : Array Bool) (a : Act) (w : World), Inv ops.size listed done → Closed md ops listed → seqOkG ops.size g am cf later l done = true → (done.testBit g = false → S w) →
      wpSeqG P ops Q S l a w → wpAnyG P md ops Q S g l.length listed a w := by
  have am_get : ∀ (i : Nat) (o : Oper), ops[i]? = some o → am.getD i 0 = amOf md o := by
    intro i o ho
    rw [← ham, List.getD_eq_getElem?_getD, List.getElem?_map, Array.getElem?_toList, ho]; rfl
  have am_len : am.length = ops.size := by rw [← ham]; simp
  have cf_get : ∀ (i : Nat) (o : Oper), ops[i]? = some o → cf.getD i 0 = cfOf md ops o i ops.toList 0 := by
    intro i o ho
    rw [← hcf, List.getD_eq_getElem?_getD, cfAll_get md ops ops.toList 0 i o (by rw [Array.getElem?_toList]; exact ho), Nat.zero_add]; rfl
  have is_ready : ∀ (i done : Nat) (listed : Array Bool) (o : Oper), Inv ops.size listed done → ops[i]? = some o → done.testBit i = false → (am.getD i 0 &&& done == am.getD i 0) = true → i ∈ Region.ready md ops listed := by
    intro i done listed o hI ho hd ha
    have hin : i < ops.size := (Array.getElem?_eq_some_iff.1 ho).1
    refine mem_ready.2 ⟨by rw [hI.getT hin]; exact hd, o, ho, fun e he hb => ?_⟩
    rw [hI.getF]
    rw [am_get i o ho] at ha
    exact sub_bits ha e.on ((amOf_bit md o e.on).2 ⟨e, he, hb, rfl⟩)
  have ready_is : ∀ (i done : Nat) (listed : Array Bool), Inv ops.size listed done → i ∈ Region.ready md ops listed → i < ops.size ∧ done.testBit i = false ∧ (am.getD i 0 &&& done == am.getD i 0) = true := by
    intro i done listed hI hr
    obtain ⟨h1, o, ho, h2⟩ := mem_ready.1 hr
    have hin : i < ops.size := (Array.getElem?_eq_some_iff.1 ho).1
    refine ⟨hin, by rw [← hI.getT hin]; exact h1, ?_⟩
    rw [am_get i o ho]
    refine bits_sub fun k hk => ?_
    obtain ⟨e, he, hb, rfl⟩ := (amOf_bit md o k).1 hk
    rw [← hI.getF]
    exact h2 e he hb
  intro l
  induction l with
  | nil =>
    intro done listed a w hI _ hk _ h
    refine ⟨?_, h⟩
    refine List.eq_nil_iff_forall_not_mem.2 fun i hi => ?_
    obtain ⟨h1, h2, _⟩ := ready_is i done listed hI hi
    have := List.all_eq_true.1 hk i (List.mem_range.2 h1)
    rw [h2] at this
    cases this
  | cons x l ih =>
    obtain ⟨i, k⟩ := x
    intro done listed a w hI hcl hk hS h
    unfold seqOkG at hk
    simp only [Bool.and_eq_true, decide_eq_true_eq, Bool.not_eq_true'] at hk
    obtain ⟨⟨⟨⟨⟨k1, k2⟩, k3⟩, k4⟩, k5⟩, k6⟩ := hk
    obtain ⟨o, ho, h⟩ := h
    have hr := is_ready i done listed o hI ho k2 k3
    have hI' := hI.set k1
    have hcl' := hcl.set hr
    have gbit : ∀ j, j ≠ g → (done ||| 2 ^ j).testBit g = done.testBit g := fun j hj => by
      rw [Nat.testBit_or, testBit_pow]
      simp [hj]
    have hfree : ¬ (k = 2 ∨ k = 4) → i ≠ g ∧ ∀ j oj, ops[j]? = some oj → j ≠ i → listed.getD j true = false → (∀ e ∈ oj.after, Region.binds md e = true → e.on ≠ i) → o.apart ops oj = true := by
      intro hk2
      rw [if_neg hk2] at k4
      simp only [Bool.and_eq_true, bne_iff_ne] at k4
      refine ⟨k4.2, ?_⟩
      intro j oj hj hji hun hno
      cases c : o.apart ops oj
      · exfalso
        have hjn : j < ops.size := (Array.getElem?_eq_some_iff.1 hj).1
        have hb : (amOf md oj).testBit i = false := by
          cases e : (amOf md oj).testBit i
          · rfl
          · obtain ⟨x, hx, hxb, hxi⟩ := (amOf_bit md oj i).1 e
            exact absurd hxi (hno x hx hxb)
        have k4' := k4.1
        rw [cf_get i o ho] at k4'
        have := sub_bits k4' j (cfOf_bit md ops o i j oj hji hb c ops.toList 0 j (by rw [Array.getElem?_toList]; exact hj) (Nat.zero_add _))
        rw [hI.getT hjn, this] at hun
        cases hun
      · rfl
    have only : (k = 2 ∨ k = 4) → ∀ j ∈ Region.ready md ops listed, j = i := by
      intro hk2 j hj
      rw [if_pos hk2] at k4
      obtain ⟨q1, q2, q3⟩ := ready_is j done listed hI hj
      have := List.all_eq_true.1 k4 j (List.mem_range.2 q1)
      rw [q2, q3] at this
      simpa using this
    have hSl : listed.getD g false = false → S w := fun hg => hS (by rw [← hI.getF]; exact hg)
    rw [List.length_cons]
    by_cases c0 : k = 0
    · subst c0
      obtain ⟨hig, hfr⟩ := hfree (by omega)
      rw [if_pos rfl] at h k5
      simp only [Bool.and_eq_true] at k5
      obtain ⟨v, ⟨hw, hv⟩, h⟩ := h
      have hB := behind_of (g := g) am ham i (later.getD i 0) k5.1 k5.2 (Ne.symm hig) (by omega)
      obtain ⟨hg1, _⟩ := hB listed hcl (mem_ready.1 hr).1
      exact wpAnyG_first (T := S) ho (Region.noSelect_spec hs) hig (.inr ⟨fun _ h => h, hB⟩) (fun c a w h => hQ c a w _ _ h) l.length listed a w hcl hfr hr (Or.inl ⟨hw, hv⟩) (hSl hg1) hSl
        (ih _ _ _ _ hI' hcl' k6 (fun hg => hSl hg1) h)
    rw [if_neg c0] at h
    by_cases c1 : k = 1
    · subst c1
      obtain ⟨hig, hfr⟩ := hfree (by omega)
      rw [if_pos rfl] at h
      exact wpAnyG_first (T := fun _ => True) ho (Region.noSelect_spec hs) hig (.inl fun _ => trivial) (fun c a w h => hQ c a w _ _ h) l.length listed a w hcl hfr hr (Or.inr ⟨h.1, rfl⟩) trivial hSl
        (ih _ _ _ _ hI' hcl' k6 (fun hg => hS (by rw [gbit i hig] at hg; exact hg)) h.2)
    rw [if_neg c1] at h
    by_cases c2 : k = 2
    · subst c2
      rw [if_pos rfl] at h
      simp only [if_neg c0, if_true, Bool.and_eq_true, bne_iff_ne, Bool.not_eq_true'] at k5
      refine ⟨fun e => (by rw [e] at hr; cases hr), fun j hj => ?_⟩
      obtain rfl := only (Or.inl rfl) j hj
      exact wpOp_mono (fun a' w' h' => ⟨fun _ _ => h'.1, ih _ _ _ _ hI' hcl' k6 (fun _ => h'.1) h'.2⟩) h
    rw [if_neg c2] at h
    by_cases c3 : k = 3
    · subst c3
      obtain ⟨hig, hfr⟩ := hfree (by omega)
      rw [if_pos rfl] at h
      obtain ⟨v, ⟨hw, hv⟩, h⟩ := h
      exact wpAnyG_first (T := fun _ => True) ho (Region.noSelect_spec hs) hig (.inl fun _ => trivial) (fun c a w h => hQ c a w _ _ h) l.length listed a w hcl hfr hr (Or.inl ⟨hw, fun w _ => hv w⟩) trivial hSl
        (ih _ _ _ _ hI' hcl' k6 (fun hg => hS (by rw [gbit i hig] at hg; exact hg)) h)
    rw [if_neg c3] at h
    obtain ⟨c4, h⟩ := h
    subst c4
    simp only [if_neg c0, if_neg c2, if_true, Bool.or_eq_true, beq_iff_eq] at k5
    refine ⟨fun e => (by rw [e] at hr; cases hr), fun j hj => ?_⟩
    obtain rfl := only (Or.inr rfl) j hj
    have hdone : (done ||| 2 ^ j).testBit g = true := by
      rw [Nat.testBit_or, testBit_pow]
      rcases k5 with rfl | k5
      · simp
      · rw [k5]; rfl
    have hls : listed.getD g false = false → j = g := fun hg => by
      rcases k5 with k5 | k5
      · exact k5
      · rw [hI.getF, k5] at hg; cases hg
    exact wpOp_mono (fun a' w' h' => ⟨fun hjg hg => absurd (hls hg) hjg, ih _ _ _ _ hI' hcl' k6 (fun hg => by rw [hdone] at hg; cases hg) h'⟩) h
/-- The beginning: the order, and that it may be. -/
theorem wp_region_gate {P : Program} {ops : Array Oper} {Q : Exit → Act → World → Prop} {S : World → Prop} {id : Nat} {a : Act} {w : World} (g : Nat) (l : List (Nat × Nat)) (am cf later : List Nat) (hm : P.follows .mixedOrders = true)
    (hk : (Region.noSelect ops && decide (l.length = ops.size) && decide (g < ops.size) && decide (ops.toList.map (amOf .any) = am) && decide (cfAll .any ops ops.toList 0 = cf) && seqOkG ops.size g am cf later l 0) = true)
    (hQ : ∀ c a w d v, Q (.panic c) (Act.put a d v) w → Q (.panic c) a w) (hS : S w.drew)
    (h : S w.drew → wpSeqG P ops Q S l a w.drew) : (Code.region id ops true).wp P Q a w := by
  simp only [Bool.and_eq_true, decide_eq_true_eq] at hk
  obtain ⟨⟨⟨⟨⟨h1, h2⟩, hg⟩, h3⟩, h4⟩, h5⟩ := hk
  refine wp_region_any hm ?_
  rw [← h2]
  refine wpAny_of_gate (S := S) (g := g) _ _ _ _ ?_
  have := wpAnyG_seq (P := P) (md := .any) (S := S) g am cf later hg h3 h4 h1 hQ l 0 (Array.replicate ops.size false) a w.drew (Inv.start _) (fun j oj hj hl => by
    rw [Array.getD_eq_getD_getElem?, Array.getElem?_replicate] at hl
    split at hl <;> simp at hl) h5 (fun _ => hS) (h hS)
  rw [h2] at this ⊢
  exact this
theorem wpSeqG_free {P : Program} {ops : Array Oper} {Q : Exit → Act → World → Prop} {S : World → Prop} {l : List (Nat × Nat)} {t : List Value} {df : List _} {w : World} {i d : Nat} {o : Oper} {v : Value}
    (ho : ops.toList[i]? = some o) (hd : o.dst = some d) (hw : Region.wanted o (yielded ops t.toArray) = true)
    (hy : ∀ w, (execOp (Act.eval { tmps := t.toArray, defers := df }) o).run P w = .ok (.value v) w)
    (h : wpSeqG P ops Q S l { tmps := (t.set d v).toArray, defers := df } w) : wpSeqG P ops Q S ((i, 3) :: l) { tmps := t.toArray, defers := df } w := by
  refine ⟨o, by rw [← Array.getElem?_toList]; exact ho, ?_⟩
  rw [if_neg (by decide), if_neg (by decide), if_neg (by decide), if_pos rfl]
  refine ⟨v, ⟨hw, hy⟩, ?_⟩
  have e : Act.put { tmps := t.toArray, defers := df } o.dst v = { tmps := (t.set d v).toArray, defers := df } := by
    rw [hd]; simp [Act.put]
  rw [e]
  exact h
theorem wpSeqG_gate {P : Program} {ops : Array Oper} {Q : Exit → Act → World → Prop} {S : World → Prop} {l : List (Nat × Nat)} {a : Act} {w : World} {i : Nat} {o : Oper}
    (ho : ops.toList[i]? = some o) (hw : Region.wanted o (yielded ops a.tmps) = true)
    (h : ∀ K' : Act → World → Prop, Shut (∀ a w, wpSeqG P ops Q S l a w → K' a w) → Oper.wp P o a w K' Q) : wpSeqG P ops Q S ((i, 4) :: l) a w := by
  rw [Array.getElem?_toList] at ho
  refine ⟨o, ho, ?_⟩
  rw [if_neg (by decide), if_neg (by decide), if_neg (by decide), if_neg (by decide)]
  refine ⟨rfl, wpOp_step ho fun K' hK => ?_⟩
  rw [if_pos hw]
  exact h K' fun a w h => hK a w h
theorem wpSeqG_done {P : Program} {ops : Array Oper} {Q : Exit → Act → World → Prop} {S : World → Prop} {a : Act} {w : World} (h : Q .normal a w) : wpSeqG P ops Q S [] a w := h
end Go.Proofs.Ytiblhebenhiijaa

namespace Go.Proofs
open Go.Shelf
def Try.lays212_ren : Go.Shelf.Ren := ⟨fun | 212 => 33 | 263 => 35 | 264 => 36 | n => n, fun | 46 => 59 | 51 => 25 | 146 => 62 | 53 => 64 | 148 => 65 | n => n, fun | n => n⟩
theorem Try.lays212 : Go.Proofs.Lays.n212 Try.prog Try.lays212_ren := {
  mixed := by kernel_rfl
  f212 := Try.func33.trans (congrArg some (by kernel_rfl))
  f263 := Try.func35.trans (congrArg some (by kernel_rfl))
  f264 := Try.func36.trans (congrArg some (by kernel_rfl))
  t46 := Try.underlying59
  a46 := Try.isAgg59
  z46 := Try.sizeOf59
  v46 := Try.zeroValue59
  t51 := Try.underlying25
  a51 := Try.isAgg25
  z51 := Try.sizeOf25
  v51 := Try.zeroValue25
  t53 := Try.underlying64
  a53 := Try.isAgg64
  z53 := Try.sizeOf64
  v53 := Try.zeroValue64
  t146 := Try.underlying62
  a146 := Try.isAgg62
  z146 := Try.sizeOf62
  v146 := Try.zeroValue62
  t148 := Try.underlying65
  a148 := Try.isAgg65
  z148 := Try.sizeOf65
  v148 := Try.zeroValue65 }
open Go.RowKit Go.Lib in
theorem Try.bits_Mul (x y : Nat) (hx : x < 18446744073709551616) (hy : y < 18446744073709551616) (w : World) :
    Calls Try.prog 33 #[.int .u64 x, .int .u64 y] w fun e w' => e = .returned (.tuple #[.int .u64 ((x * y / 18446744073709551616 : Nat) : Int), .int .u64 ((x * y % 18446744073709551616 : Nat) : Int)]) ∧ w' = w := Any.bits_Mul Try.lays212 x y hx hy w
end Go.Proofs

namespace Go.Proofs.Ytiblhebenhiijaa
open Go.RowKit
set_option linter.unusedVariables false
theorem repZInfo : (Try.prog.info? 2).map (fun i => (i.zero, i.size, i.bytes)) = some (some (.int .i64 0), 1, 8) := by kernel_rfl
set_option maxRecDepth 100000 in
set_option maxHeartbeats 2000000 in
theorem repZ_any (ad : Addr) (c0 N : Nat) (xs : List Value) (hxs : xs.length = 1) (hx1 : ∀ u ∈ xs, u.oneCell' = true) (hN1 : 1 ≤ N) (hN2 : N ≤ 1000) (w : World) (hsrc : ∀ j v, xs[j]? = some v → w.cell? (ad.add j) = some v) :
    Calls Try.prog 28 #[.slice (some ad) 1 c0, .int .i64 (N : Int)] w fun e w' => ∃ g, e = .returned (.slice (some ⟨g, 0, none⟩) N N) ∧ w'.ownsRow w.heap.size 2 1 (.slice (some ⟨g, 0, none⟩) N N) N (repL N xs) ∧ B w w' := by
  obtain ⟨i0, hi0, hz0, hz1, hz2⟩ := info_of repZInfo
  have cM := fun w => Try.bits_Mul 1 N (by decide) (by omega) w
  rw [show (1 * N / 18446744073709551616 : Nat) = 0 by omega, show (1 * N % 18446744073709551616 : Nat) = N by omega] at cM
  have t1 : decide ((N : Int) < 0) = false := decide_eq_false (by omega)
  have t2 : decide ((9223372036854775807 : Int) < (N : Int)) = false := decide_eq_false (by omega)
  have t3 : decide ((0 : Int) < 0) = false := rfl
  have u1 : IntKind.u64.wrap (N : Int) = (N : Int) := by rw [IntKind.wrap_u64]; omega
  have u2 : IntKind.i64.wrap (N : Int) = (N : Int) := by rw [IntKind.wrap_i64]; omega
  have hbB : i0.bytes * N ≤ 281474976710656 := by rw [hz2]; omega
  have hnl : N ≤ maxLen := by unfold maxLen; omega
  have HS := Lib.hid hsrc
  have HW := Lib.hid (Nat.le_refl w.heap.size)
  clear hsrc
  go_enter Try.func28, Try.ntmps28
  go_wp2_with fail
  refine (cM _).mono ?_
  rintro e w1 ⟨rfl, e1⟩
  replace e1 := e1.symm
  subst e1
  clear cM
  have HZ := Lib.hid (And.intro hxs (And.intro hx1 (And.intro hN1 hN2)))
  have hmin : Nat.min 1 N = 1 := Nat.min_eq_left hN1
  clear hxs hx1 hN1 hN2
  go_wp2_with (at_make; refine wpList_make_full _ rfl _ _ 31 rfl w.heap.size 2 i0 _ 1 Try.underlying31 hi0 hz0 hz1 .i64 .i64 _ _ N rfl rfl rfl rfl hbB hnl (Nat.le_refl _) ?_; intro w1 hrow hgrow; have q1 := (B.refl w).grownBy hgrow (fun _ h => by cases h); clear hgrow; have hR0 := RepAt.zero hrow HZ.out.1 rfl; clear hrow; obtain ⟨cur, hoc, hcs, hct⟩ := hR0.cur; go_wp2_with (refine wpList_copy_any rfl _ _ 31 31 rfl 2 i0 1 Try.underlying31 hi0 hz1 w.heap.size 0 N N ad 1 c0 rfl rfl cur 2 hoc xs (by rw [hmin, HZ.out.1]) (fun j v h => q1.keep (HS.out j v h)) (by rw [hcs, HZ.out.1]; have := HZ.out.2.2.1; omega) HZ.out.2.1 1 hmin w.heap.size w q1.below HW.out ?_; intro w2 ho2 hb2; have hR1 := hR0.more (k := 1) HZ.out.2.2.1 hoc (by rw [repL_one, Nat.zero_mul]; exact ho2); clear ho2 hoc hcs hct hR0; replace hb2 : B w w2 := ⟨hb2⟩))
  have hsc : (0 : Nat) + 1 = 1 := rfl
  rw [hsc] at hR1
  have hI := Lib.hid (And.intro hi0 hz1)
  clear hsc u1 hi0 hz0 hz1 hz2 hbB t1 t2 t3
  go_loopw [8] (fun iv wr => ∃ m : Nat, 1 ≤ m ∧ m ≤ N ∧ iv = .int .i64 m ∧ RepAt wr w.heap.size w.heap.size 2 N m xs ∧ B w wr) (fun iv _ => N + 1 - (intOf iv).toNat)
  case atStart => exact ⟨1, Nat.le_refl _, HZ.out.2.2.1, rfl, hR1, hb2⟩
  case round =>
    obtain ⟨m, hm1, hmN, rfl, hRp, hBq⟩ := hrel
    obtain ⟨wo, rfl⟩ : ∃ wo : World, wo = wr := ⟨_, rfl⟩
    by_cases hl : m < N
    · have hlB : decide ((m : Int) < (N : Int)) = true := decide_eq_true (by omega)
      have hlN : decide (m < N) = true := decide_eq_true hl
      obtain ⟨k, hk⟩ : ∃ k, Nat.min m (N - m) = k := ⟨_, rfl⟩
      have hkl : 1 ≤ k ∧ m + k ≤ N ∧ k ≤ m := by
        have h1 : Nat.min m (N - m) ≤ N - m := Nat.min_le_right m (N - m)
        have h3 : Nat.min m (N - m) ≤ m := Nat.min_le_left m (N - m)
        have h2 : 1 ≤ Nat.min m (N - m) := Nat.le_min.2 ⟨hm1, by omega⟩
        rw [hk] at h1 h2 h3
        omega
      have hkm : k ≤ m := hkl.2.2
      have HK := Lib.hid (And.intro hk (And.intro hkl (And.intro hRp hBq)))
      have hxs := HZ.out.1
      have hN2 := HZ.out.2.2.2
      have wk : IntKind.i64.wrap ((m : Int) + (k : Int)) = ((m + k : Nat) : Int) := by rw [IntKind.wrap_i64]; omega
      have hm0 : (0 : Int) ≤ (m : Int) := by omega
      have hmI : (m : Int) ≤ (N : Int) := by omega
      have hne : ¬ N = m := by omega
      clear hb2 hR1
      go_wp2_with fail
      refine wp_region_noPanic ?_
      refine wp_region_gate (S := fun w' => RepAt w' w.heap.size w.heap.size 2 N m xs ∧ B w w') 7 [(0, 3), (1, 3), (2, 3), (3, 3), (4, 3), (5, 3), (6, 3), (7, 4), (8, 3), (9, 3)] [0, 0, 0, 6, 0, 0, 48, 72, 129, 511] [0, 0, 0, 6, 0, 0, 48, 72, 129, 293] [0, 0, 0, 0, 0, 0, 0, 0, 0, 0] (by kernel_rfl) (by kernel_rfl) (fun _ _ _ _ _ h => h) ?_ (fun hH => ?_)
      · exact ⟨⟨hRp.hb, hRp.cur⟩, hBq.drew⟩
      refine wpSeqG_free (d := 38) (v := ?_) rfl rfl (by kernel_rfl) (fun w => ?_) ?_
      rotate_left
      · go_simp <;> with_reducible rfl
      dsimp only [List.set_cons_zero, List.set_cons_succ]
      refine wpSeqG_free (d := 39) (v := ?_) rfl rfl (by kernel_rfl) (fun w => ?_) ?_
      rotate_left
      · go_simp <;> with_reducible rfl
      dsimp only [List.set_cons_zero, List.set_cons_succ]
      refine wpSeqG_free (d := 40) (v := ?_) rfl rfl (by kernel_rfl) (fun w => ?_) ?_
      rotate_left
      · go_simp <;> with_reducible rfl
      dsimp only [List.set_cons_zero, List.set_cons_succ]
      refine wpSeqG_free (d := 41) (v := ?_) rfl rfl (by kernel_rfl) (fun w => ?_) ?_
      rotate_left
      · go_simp <;> with_reducible rfl
      dsimp only [List.set_cons_zero, List.set_cons_succ]
      refine wpSeqG_free (d := 42) (v := ?_) rfl rfl (by kernel_rfl) (fun w => ?_) ?_
      rotate_left
      · go_simp <;> with_reducible rfl
      dsimp only [List.set_cons_zero, List.set_cons_succ]
      refine wpSeqG_free (d := 43) (v := ?_) rfl rfl (by kernel_rfl) (fun w => ?_) ?_
      rotate_left
      · go_simp <;> with_reducible rfl
      dsimp only [List.set_cons_zero, List.set_cons_succ]
      refine wpSeqG_free (d := 44) (v := ?_) rfl rfl (by kernel_rfl) (fun w => ?_) ?_
      rotate_left
      · go_simp <;> with_reducible rfl
      dsimp only [List.set_cons_zero, List.set_cons_succ]
      refine wpSeqG_gate rfl (by kernel_rfl) (fun K hK => ?_)
      obtain ⟨cur, hoc, hcs, hct⟩ := hH.1.cur
      have hk2 := Nat.mul_le_mul_right xs.length (show m + k ≤ N by omega)
      have hkl9 := repL_len k xs
      rw [Nat.add_mul] at hk2
      refine wp_copy_any _ _ 31 31 rfl 2 i0 1 Try.underlying31 hI.out.1 hI.out.2 w.heap.size (m * 1) (N - m) (N - m) ⟨w.heap.size, 0, none⟩ m N ?_ ?_ cur 2 hoc (repL k xs) (by rw [hkl9, hxs]; show _ = Nat.min m (N - m) * 1; rw [HK.out.1]) (hH.1.cells (by omega)) (by rw [hcs, hkl9, hxs]; rw [hxs] at hk2; omega) (fun u hu => HZ.out.2.1 u (repL_mem hu)) k HK.out.1 w.heap.size w hH.2.below hH.1.hb ?_
      · first | rfl | (rw [Nat.mul_one]; rfl)
      · rfl
      intro w5 ho5 hb5
      rw [← hxs] at ho5
      have hR5 := hH.1.more (by omega) hoc ho5
      refine hK.out _ _ ?_
      clear hK
      refine wpSeqG_free (d := 46) (v := ?_) rfl rfl (by kernel_rfl) (fun w => ?_) ?_
      rotate_left
      · go_simp <;> with_reducible rfl
      dsimp only [List.set_cons_zero, List.set_cons_succ]
      refine wpSeqG_free (d := 8) (v := ?_) rfl rfl (by kernel_rfl) (fun w => ?_) ?_
      rotate_left
      · go_simp <;> with_reducible rfl
      dsimp only [List.set_cons_zero, List.set_cons_succ]
      refine wpSeqG_done ?_
      refine NoPanic.normal ?_
      go_wp2
      go_roundw
      case rel => exact ⟨m + k, by omega, by omega, by go_num, hR5, ⟨hb5⟩⟩
      case measure => simp [intOf]; omega
    · have hlB : decide ((m : Int) < (N : Int)) = false := decide_eq_false (by omega)
      have hlN : decide (m < N) = false := decide_eq_false hl
      obtain rfl : m = N := by omega
      have HF := Lib.hid (And.intro (hRp.own HZ.out.1 hnl) hBq)
      clear hRp hBq hb2 hR1
      go_wp2
      go_ret
      exact ⟨w.heap.size, rfl, HF.out.1, HF.out.2⟩
set_option maxRecDepth 100000 in
set_option maxHeartbeats 2000000 in
/-- No times: a row of none. -/
theorem repZ0_any (ad : Addr) (c0 : Nat) (w : World) :
    Calls Try.prog 28 #[.slice (some ad) 1 c0, .int .i64 0] w fun e w' => ∃ g, e = .returned (.slice (some ⟨g, 0, none⟩) 0 0) ∧ w'.ownsRow w.heap.size 2 1 (.slice (some ⟨g, 0, none⟩) 0 0) 0 [] ∧ B w w' := by
  obtain ⟨i0, hi0, hz0, hz1, hz2⟩ := info_of repZInfo
  have cM := fun w => Try.bits_Mul 1 0 (by decide) (by decide) w
  rw [show (1 * 0 / 18446744073709551616 : Nat) = 0 by omega, show (1 * 0 % 18446744073709551616 : Nat) = 0 by omega] at cM
  have hbB : i0.bytes * 0 ≤ 281474976710656 := by omega
  have HW := Lib.hid (Nat.le_refl w.heap.size)
  go_enter Try.func28, Try.ntmps28
  go_wp2_with fail
  refine (cM _).mono ?_
  rintro e w1 ⟨rfl, e1⟩
  replace e1 := e1.symm
  subst e1
  clear cM
  have hmin : Nat.min 1 0 = 0 := rfl
  go_wp2_with (at_make; refine wpList_make_full _ rfl _ _ 31 rfl w.heap.size 2 i0 _ 1 Try.underlying31 hi0 hz0 hz1 .i64 .i64 _ _ 0 rfl rfl rfl rfl hbB (Nat.zero_le _) (Nat.le_refl _) ?_; intro w1 hrow hgrow; have q1 := (B.refl w).grownBy hgrow (fun _ h => by cases h); clear hgrow; have hR0 := RepAt.zero (xs := [.int .i64 0]) hrow rfl rfl; clear hrow; obtain ⟨cur, hoc, hcs, hct⟩ := hR0.cur; go_wp2_with (refine wpList_copy_any rfl _ _ 31 31 rfl 2 i0 1 Try.underlying31 hi0 hz1 w.heap.size 0 0 0 ad 1 c0 rfl rfl cur 2 hoc [] (by rfl) (fun j v h => by simp at h) (by simp) (fun u hu => by cases hu) 0 hmin w.heap.size w q1.below HW.out ?_; intro w2 ho2 hb2; have hR1 := (hR0.more (k := 0) (Nat.le_refl _) hoc (by rw [Nat.zero_mul]; exact ho2)).own rfl (Nat.zero_le _); clear ho2 hoc hcs hct hR0; replace hb2 : B w w2 := ⟨hb2⟩))
  have HF := Lib.hid (And.intro hR1 hb2)
  clear hi0 hz0 hz1 hz2 hbB hR1 hb2
  go_loopw [8] (fun iv wr => iv = .int .i64 0 ∧ wr = w2) (fun _ _ => 1)
  case atStart => exact ⟨rfl, rfl⟩
  case round =>
    obtain ⟨rfl, rfl⟩ := hrel
    go_wp2
    go_ret
    exact ⟨w.heap.size, rfl, HF.out.1, HF.out.2⟩
/-- Any times. -/
theorem repZ_all (ad : Addr) (c0 N : Nat) (x : Int) (hN : N ≤ 1000) (w : World) (hsrc : w.cell? (ad.add 0) = some (.int .i64 x)) :
    Calls Try.prog 28 #[.slice (some ad) 1 c0, .int .i64 (N : Int)] w fun e w' => ∃ g, e = .returned (.slice (some ⟨g, 0, none⟩) N N) ∧ w'.ownsRow w.heap.size 2 1 (.slice (some ⟨g, 0, none⟩) N N) N (repL N [.int .i64 x]) ∧ B w w' := by
  by_cases h0 : N = 0
  · subst h0
    exact repZ0_any ad c0 w
  · refine repZ_any ad c0 N [.int .i64 x] rfl (fun u hu => by obtain rfl := List.mem_singleton.1 hu; rfl) (by omega) hN w (fun j v hj => ?_)
    match j, hj with
    | 0, hj => simp at hj; rw [← hj]; exact hsrc
end Go.Proofs.Ytiblhebenhiijaa

namespace Go.Proofs.Ytiblhebenhiijaa
open Go.RowKit
set_option linter.unusedVariables false
theorem run_append_in {P : Program} (w : World) (base : Nat) (t ty e : TypeId) (i : TypeInfo) (z : Value) (size bytes : Nat) (ht : P.underlying t = some (.slice e)) (hi : P.info? e = some i) (hz : i.zero = some z)
    (hsize : i.size = size) (hby : i.bytes = bytes) (hzs : z.cells.size = size) (hsz : 0 < size) (v : Value) (n : Nat) (xs : List Value) (hown : w.ownsRow base e size v n xs) (u : Value) (m : Nat) (news : List Value) (hu : RowIn w u m news) (hl : news.length = m * size) (h1 : ∀ x ∈ news, x.oneCell' = true)
    (h63 : n + m ≤ maxLen) (hbytes : (n + m) * bytes ≤ 140737488355328) (hbase : base ≤ w.heap.size) :
    ∃ o c w', (Builtin.append_ #[t, t] ty #[v, u]).run P w = .ok (.slice o (n + m) c) w' ∧ w'.ownsRow base e size (.slice o (n + m) c) (n + m) (xs ++ news) ∧ w.grownBy w' v.ownBlock := by
  rcases hu with ⟨rfl, rfl, rfl⟩ | ⟨ad, c, rfl, hc⟩
  · obtain ⟨o, c, rfl⟩ := ownsRow_form hown
    exact ⟨o, c, w, run_append_owned_none w base t ty e i size ht hi _ n xs hown, by simpa using hown, ⟨rfl, rfl, rfl, Nat.le_refl _, fun k hk _ => rfl⟩⟩
  · obtain ⟨v', w', hr, h2, h3, _, h5⟩ := run_append_own_at (P := P) w base t ty e i z size bytes ht hi hz hsize hby hzs hsz v n xs hown ad m c news hl hc h1 h63 hbytes hbase
    obtain ⟨o, c', rfl⟩ := ownsRow_form h2
    exact ⟨o, c', w', hr, h2, h3⟩
/-- Behind an append the old row still holds what it held, wherever the new one lies. -/
theorem append_old {P : Program} {w w' : World} {base : Nat} {t ty e : TypeId} {i : TypeInfo} {z : Value} {size bytes : Nat} (ht : P.underlying t = some (.slice e)) (hi : P.info? e = some i) (hz : i.zero = some z)
    (hsize : i.size = size) (hby : i.bytes = bytes) (hzs : z.cells.size = size) (hsz : 0 < size) {v : Value} {n : Nat} {xs : List Value} (hown : w.ownsRow base e size v n xs) {u : Value} {m : Nat} {news : List Value} (hu : RowIn w u m news) (hl : news.length = m * size) (h1 : ∀ x ∈ news, x.oneCell' = true)
    (h63 : n + m ≤ maxLen) (hbytes : (n + m) * bytes ≤ 140737488355328) {v' : Value} (hr : (Builtin.append_ #[t, t] ty #[v, u]).run P w = .ok v' w') (hown' : w'.ownsRow base e size v' (n + m) (xs ++ news)) : w'.ownsRow base e size v n xs := by
  subst hsize
  subst hby
  rcases hu with ⟨rfl, rfl, rfl⟩ | ⟨ad, c, rfl, hc⟩
  · have h2 := run_append_owned_none w base t ty e i i.size ht hi v n xs hown
    rw [h2] at hr
    cases hr
    exact hown
  · rcases hown.2 with ⟨rfl, rfl⟩ | ⟨g, cap, cur, rfl, hbg, hg, hnc, hcm, hcs, htake⟩
    · have hx : xs = [] := List.eq_nil_of_length_eq_zero (by simpa using hown.1)
      subst hx
      exact World.ownsRow_nil _ _ _ _
    · by_cases hroom : n + m ≤ cap
      · have hfit : n * i.size + news.length ≤ cur.size := by rw [hl, hcs, ← Nat.add_mul]; exact Nat.mul_le_mul_right _ hroom
        have h2 := run_append_room (P := P) w t ty e i ht hi g n cap cur hg ad m c news hl hc h1 hroom hfit
        rw [h2] at hr
        cases hr
        rcases hown'.2 with ⟨h0, _⟩ | ⟨g', cap', cur', h0, _, hg', _, _, hcs', htake'⟩
        · cases h0
        · simp only [Value.slice.injEq, Option.some.injEq, Addr.mk.injEq] at h0
          obtain ⟨⟨rfl, _⟩, _, rfl⟩ := h0
          refine ⟨hown.1, .inr ⟨g, cap, cur', rfl, hbg, hg', hnc, hcm, hcs', ?_⟩⟩
          have := congrArg (List.take (n * i.size)) htake'
          rw [List.take_take, Nat.min_eq_left (Nat.mul_le_mul_right _ (by omega))] at this
          rw [this, ← hown.1, List.take_left]
      · have holds : ∀ j u, xs[j]? = some u → w.cell? ((⟨g, 0, none⟩ : Addr).add j) = some u := hown.cells (g := g) rfl
        have h2 := run_append_grow (P := P) w t ty e i z ht hi hz ⟨g, 0, none⟩ n cap xs hown.1 holds ad m c news hl hc (by omega) (by unfold maxLen at h63; omega) (growslice_fits (by omega) hbytes)
        rw [h2] at hr
        cases hr
        exact row_keep hown ((B.refl w).drew.alloc _ _)
theorem wpList_append_two {P : Program} {w : World} {ops : Array Oper} {rest : List Oper} {o : Oper} {a : Act} {Q : Exit → Act → World → Prop} (hgd : o.guard = none) (s x : Operand) (t : TypeId)
    (ho : o.op = .call { callee := .builtin .append, args := #[s, x], argTypes := #[t, t] }) (base : Nat) (e : TypeId) (i : TypeInfo) (z : Value) (size bytes : Nat) (ht : P.underlying t = some (.slice e)) (hi : P.info? e = some i) (hz : i.zero = some z)
    (hsize : i.size = size) (hby : i.bytes = bytes) (hzs : z.cells.size = size) (hsz : 0 < size) (v : Value) (n : Nat) (xs : List Value) (hs : a.eval s = v) (hown : w.ownsRow base e size v n xs) (u : Value) (hx : a.eval x = u) (m : Nat) (news : List Value) (hu : RowIn w u m news) (hl : news.length = m * size) (h1 : ∀ x ∈ news, x.oneCell' = true)
    (h63 : n + m ≤ maxLen) (hbytes : (n + m) * bytes ≤ 140737488355328) (hbase : base ≤ w.heap.size)
    (h : ∀ oN cN w', w'.ownsRow base e size (.slice oN (n + m) cN) (n + m) (xs ++ news) → w'.ownsRow base e size v n xs → w.grownBy w' v.ownBlock → wpList P ops Q rest (a.put o.dst (.slice oN (n + m) cN)) w') : wpList P ops Q (o :: rest) a w := by
  refine wpList_plain hgd fun K hK => ?_
  obtain ⟨oN, cN, w', hr, h2, h3⟩ := run_append_in (P := P) w base t o.type e i z size bytes ht hi hz hsize hby hzs hsz v n xs hown u m news hu hl h1 h63 hbytes hbase
  have h4 := append_old ht hi hz hsize hby hzs hsz hown hu hl h1 h63 hbytes hr h2
  unfold Oper.wp execOp
  simp only [ho, resolve, invoke, builtin, Sem.run_bind, Sem.run_pure, Result.andThen_ok, List.map_toArray, List.map_cons, List.map_nil, hs, hx, hr]
  exact hK _ _ (h oN cN w' h2 h4 h3)
end Go.Proofs.Ytiblhebenhiijaa
