/-
  What lines of protocols tell. No program is named here; A step under way: its box, its wells in a row that the call owns; Steps in a row that the call owns. No program is named here; Steps and places under way: rows that the call owns, rows in rows; The statements' words: lines that may be empty, too; ProtoReads' texts and rows, plain.
-/
import Derived.Test.YthlileddhgglnaaDoorChecked
import Derived.KernelRfl
import Derived.Test.YthlileddhgglnaaDoorV1
import Derived.Test.YthlileddhgglnaaDoorV2
import Derived.Test.YthlileddhgglnaaDoorV3
import Derived.Test.YthlileddhgglnaaDoorV4
import Derived.Test.YthlileddhgglnaaDoorV5
import Derived.Test.YthlileddhgglnaaDoorV6
import Derived.Test.YthlileddhgglnaaDoorV7
import Derived.Test.YthlileddhgglnaaDoorV8
import Derived.Test.YthlileddhgglnaaDoorV9
import Derived.Test.YthlileddhgglnaaDoorV10
import Derived.Test.YthlileddhgglnaaDoorV11
import Derived.Test.YthlileddhgglnaaDoorV12
namespace Go.Proofs.YthlileddhgglnaaDoor
open Go.RowKit
set_option linter.unusedVariables false
/-- What a word tells that stands behind a line's first: 0 a name, 1 how often, 2 a well, 3 a volume, 4 times. -/
def toldP (k i : Nat) : Nat :=
  if k = 0 then 0 else if k = 1 then 1
  else if k = 5 ∧ i = 3 then 4
  else if i = (if k = 2 then 3 else if k = 6 then 1 else 2) then 3 else 2
def numP (most : Nat) (t : List UInt8) : Bool := numOk (strB t) && decide (1 ≤ numV (strB t)) && decide (numV (strB t) ≤ most)
/-- A step with one word more; what is wrong with the word. -/
def takeP (s : Sp) (c : Nat) (t : List UInt8) : Sp × Nat :=
  if c = 0 then ({ s with n := strB t }, if nameS (strB t) then 0 else 25)
  else if c = 1 then (if t = kEach then { s with m := 1 } else s, 0)
  else if c = 2 then (match wellL t with | some (n, r, q) => ({ s with w := s.w ++ [⟨strB n, r, q⟩] }, 0) | none => (s, 26))
  else if c = 3 then (if numP 20000000 t then ({ s with v := numV (strB t) }, 0) else (s, 20))
  else (if numP 20 t then ({ s with m := numV (strB t) }, 0) else (s, 20))
def readP (k : Nat) : Nat → Sp → List Wd → Except (Nat × Nat) Sp
  | _, s, [] => .ok s
  | i, s, x :: ws => if (takeP s (toldP k i) x.2).2 = 0 then readP k (i + 1) (takeP s (toldP k i) x.2).1 ws else .error (x.1, (takeP s (toldP k i) x.2).2)
def kindP (t : List UInt8) : Option Nat :=
  if t = kUse then some 0 else if t = kFresh then some 1 else if t = kTransfer then some 2 else if t = kSpread then some 3 else if t = kGather then some 4 else if t = kMix then some 5 else if t = kDilute then some 6 else none
def enoughP (k n : Nat) : Bool := if k = 0 ∨ k = 1 then decide (n = 2) else if k = 2 ∨ k = 5 then decide (n = 4) else decide (4 ≤ n)
/-- How often: the second word. -/
def oftenP (ws : List Wd) : Bool := match ws with
  | _ :: y :: _ => decide (y.2 = kEach) || decide (y.2 = kOnce)
  | _ => false
def sp0 (k : Nat) : Sp := ⟨k, ⟨#[]⟩, [], 0, 0⟩
/-- The line's kind, where it may begin so. -/
def headP (ws : List Wd) : Option Nat := match ws with
  | [] => none
  | x :: _ => match kindP x.2 with
    | none => none
    | some k => if enoughP k ws.length && (decide (k ≠ 1) || oftenP ws) then some k else none
def lineP (had : Nat) (ws : List Wd) : Except (Nat × Nat) Sp := match ws with
  | [] => .error (0, 24)
  | x :: rest => match headP ws with
    | none => .error (x.1, 24)
    | some k => if 200 ≤ had ∨ 98 < ws.length then .error (x.1, 27) else readP k 1 (sp0 k) rest
def parseP : List (List Wd) → List Sp → Except (Nat × Nat) (List Sp)
  | [], S => .ok S
  | [] :: LL, S => parseP LL S
  | (x :: ws) :: LL, S => match lineP S.length (x :: ws) with
    | .error e => .error e
    | .ok s => parseP LL (S ++ [s])
/-- Where words stand, of the lines that have some. -/
def placesP (LL : List (List Wd)) : List (List Nat) := (LL.filter fun ws => !ws.isEmpty).map fun ws => ws.map (·.1)
theorem kindP_lt {t : List UInt8} {k : Nat} (h : kindP t = some k) : k ≤ 6 := by
  unfold kindP at h
  repeat' split at h
  all_goals first | (cases h; done) | (injection h with h; omega)
theorem headP_kind {x : Wd} {ws : List Wd} {k : Nat} (h : headP (x :: ws) = some k) : kindP x.2 = some k ∧ enoughP k (ws.length + 1) = true ∧ (k ≠ 1 ∨ oftenP (x :: ws) = true) := by
  unfold headP at h
  simp only at h
  cases hk : kindP x.2 with
  | none => rw [hk] at h; cases h
  | some j =>
    rw [hk] at h
    simp only at h
    split at h
    · rename_i hc
      injection h with h
      subst h
      simp only [Bool.and_eq_true, Bool.or_eq_true, decide_eq_true_eq, List.length_cons] at hc
      exact ⟨rfl, hc.1, hc.2⟩
    · cases h
theorem readP_err : ∀ (k i : Nat) (s : Sp) (ws : List Wd) (p n : Nat), readP k i s ws = .error (p, n) → n ≠ 0
  | _, _, _, [], p, n, h => by cases h
  | k, i, s, x :: ws, p, n, h => by
    rw [readP] at h
    split at h
    · exact readP_err k _ _ ws p n h
    · rename_i h0
      cases h
      exact h0
theorem lineP_err {had : Nat} {ws : List Wd} {p n : Nat} (h : lineP had ws = .error (p, n)) : n ≠ 0 := by
  unfold lineP at h
  split at h
  · cases h; decide
  · split at h
    · cases h; decide
    · split at h
      · cases h; decide
      · exact readP_err _ _ _ _ _ _ h
theorem parseP_cons {LL : List (List Wd)} {S : List Sp} {i : Nat} {x : Wd} {ws : List Wd} (h : LL[i]? = some (x :: ws)) : parseP (LL.drop i) S = match lineP S.length (x :: ws) with | .error e => .error e | .ok s => parseP (LL.drop (i + 1)) (S ++ [s]) := by
  have hi : i < LL.length := (List.getElem?_eq_some_iff.1 h).1
  rw [List.drop_eq_getElem_cons hi, show LL[i] = x :: ws by rw [List.getElem?_eq_getElem hi] at h; simpa using h, parseP]
theorem parseP_nil {LL : List (List Wd)} {S : List Sp} {i : Nat} (h : LL[i]? = some []) : parseP (LL.drop i) S = parseP (LL.drop (i + 1)) S := by
  have hi : i < LL.length := (List.getElem?_eq_some_iff.1 h).1
  rw [List.drop_eq_getElem_cons hi, show LL[i] = [] by rw [List.getElem?_eq_getElem hi] at h; simpa using h, parseP]
theorem placesP_cons {LL : List (List Wd)} {i : Nat} {x : Wd} {ws : List Wd} (h : LL[i]? = some (x :: ws)) : placesP (LL.take (i + 1)) = placesP (LL.take i) ++ [(x :: ws).map (·.1)] := by
  rw [List.take_add_one, h]
  simp [placesP]
theorem placesP_nil {LL : List (List Wd)} {i : Nat} (h : LL[i]? = some []) : placesP (LL.take (i + 1)) = placesP (LL.take i) := by
  rw [List.take_add_one, h]
  simp [placesP]
theorem placesP_len (LL : List (List Wd)) : (placesP LL).length ≤ LL.length := by
  unfold placesP
  rw [List.length_map]
  exact List.length_filter_le _ _
theorem lineP_had {had : Nat} {ws : List Wd} {s : Sp} (h : lineP had ws = .ok s) : had < 200 ∧ ws.length ≤ 98 := by
  unfold lineP at h
  split at h
  · cases h
  · split at h
    · cases h
    · split at h
      · cases h
      · rename_i hc
        simp only [not_or] at hc
        simp only [List.length_cons] at hc ⊢
        omega
/-- Numbers in memory. -/
def IsIs (w : World) (v : Value) (l : List Nat) : Prop :=
  (v = .slice none 0 0 ∧ l = []) ∨
  ∃ (g cap : Nat), v = .slice (some ⟨g, 0, none⟩) l.length cap ∧ l.length ≤ cap ∧ cap ≤ maxLen ∧ g < w.heap.size ∧ ∀ i x, l[i]? = some x → w.cell? ⟨g, i, none⟩ = some (.int .i64 ((x : Nat) : Int))
theorem IsIs.block {w w' : World} {v : Value} {l : List Nat} (h : IsIs w v l) (hs : w.heap.size ≤ w'.heap.size) (hb : ∀ b, v.ownBlock = some b → b < w.heap.size → w'.heap[b]? = w.heap[b]?) : IsIs w' v l := by
  rcases h with h | ⟨g, cap, rfl, h1, h2, h3, h4⟩
  · exact .inl h
  · have e := hb g rfl h3
    exact .inr ⟨g, cap, rfl, h1, h2, by omega, fun i x hx => (World.cell?_of_block (a := ⟨g, i, none⟩) e).trans (h4 i x hx)⟩
theorem IsIs.keep {w w' : World} {v : Value} {l : List Nat} (h : IsIs w v l) (q : B w w') : IsIs w' v l := h.block q.below.size fun b _ hlt => q.below.block b hlt
theorem IsIs.form {w : World} {v : Value} {l : List Nat} (h : IsIs w v l) : ∃ ao cap, v = .slice ao l.length cap := by
  rcases h with ⟨rfl, rfl⟩ | ⟨g, cap, rfl, _⟩
  · exact ⟨_, _, rfl⟩
  · exact ⟨_, _, rfl⟩
def flatI (l : List Nat) : List Value := l.map fun x => .int .i64 ((x : Nat) : Int)
theorem isIs_own {w : World} {base : Nat} {e : TypeId} {v : Value} {l : List Nat} (h : w.ownsRow base e 1 v l.length (flatI l)) : IsIs w v l := by
  rcases h.2 with ⟨h0, h1⟩ | ⟨g, cap, cur, rfl, hb, ho, h1, h2, h3⟩
  · exact .inl ⟨h0, List.length_eq_zero_iff.1 (by omega)⟩
  · refine .inr ⟨g, cap, rfl, h1, h2, ?_, fun i x hx => ?_⟩
    · obtain ⟨_, c2, o2⟩ := ownsRow_obj h (i := g) rfl
      exact obj_lt o2
    · have hi : i < l.length := (List.getElem?_eq_some_iff.1 hx).1
      rw [h.cellAt i (by omega)]
      simp [flatI, hx]
/-- Rows of numbers in a row that the call owns. -/
structure PlsO (w : World) (base : Nat) (e : TypeId) (v : Value) (LL : List (List Nat)) (vs : List Value) : Prop where
  len : vs.length = LL.length
  own : w.ownsRow base e 1 v LL.length vs
  row : ∀ (j : Nat) u l, vs[j]? = some u → LL[j]? = some l → IsIs w u l ∧ ∀ b, u.ownBlock = some b → v.ownBlock ≠ some b ∧ b < w.heap.size
theorem PlsO.nil (w : World) (base : Nat) (e : TypeId) : PlsO w base e (.slice none 0 0) [] [] := ⟨rfl, World.ownsRow_nil _ _ _ _, fun j u l h => by simp at h⟩
theorem PlsO.keep {w w' : World} {base : Nat} {e : TypeId} {v : Value} {LL : List (List Nat)} {vs : List Value} (h : PlsO w base e v LL vs) (q : B w w') : PlsO w' base e v LL vs :=
  ⟨h.len, row_keep h.own q, fun j u l hu hl => by
    obtain ⟨h1, h2⟩ := h.row j u l hu hl
    exact ⟨h1.keep q, fun b hb => ⟨(h2 b hb).1, Nat.lt_of_lt_of_le (h2 b hb).2 q.below.size⟩⟩⟩
/-- Rows of numbers in memory. -/
def IsPls (w : World) (v : Value) (LL : List (List Nat)) : Prop :=
  (v = .slice none 0 0 ∧ LL = []) ∨
  ∃ (g cap : Nat), v = .slice (some ⟨g, 0, none⟩) LL.length cap ∧ LL.length ≤ cap ∧ cap ≤ maxLen ∧ ∀ (i : Nat) l, LL[i]? = some l → ∃ u, w.cell? ⟨g, i, none⟩ = some u ∧ IsIs w u l
theorem IsPls.keep {w w' : World} {v : Value} {LL : List (List Nat)} (h : IsPls w v LL) (q : B w w') : IsPls w' v LL := by
  rcases h with h | ⟨g, cap, h1, h2, h3, h4⟩
  · exact .inl h
  · exact .inr ⟨g, cap, h1, h2, h3, fun i l hl => let ⟨u, k1, k2⟩ := h4 i l hl; ⟨u, q.keep k1, k2.keep q⟩⟩
theorem IsPls.form {w : World} {v : Value} {LL : List (List Nat)} (h : IsPls w v LL) : ∃ ao cap, v = .slice ao LL.length cap := by
  rcases h with ⟨rfl, rfl⟩ | ⟨g, cap, rfl, _⟩
  · exact ⟨_, _, rfl⟩
  · exact ⟨_, _, rfl⟩
theorem PlsO.is {w : World} {base : Nat} {e : TypeId} {v : Value} {LL : List (List Nat)} {vs : List Value} (h : PlsO w base e v LL vs) : IsPls w v LL := by
  have hown := h.own
  rcases hown.2 with ⟨h0, h1⟩ | ⟨g, cap, cur, rfl, _, _, h1, h2, _⟩
  · exact .inl ⟨h0, List.length_eq_zero_iff.1 (by omega)⟩
  · refine .inr ⟨g, cap, rfl, h1, h2, fun i l hl => ?_⟩
    have hi : i < LL.length := (List.getElem?_eq_some_iff.1 hl).1
    obtain ⟨u, hu⟩ : ∃ u, vs[i]? = some u := ⟨_, List.getElem?_eq_getElem (by rw [h.len]; exact hi)⟩
    exact ⟨u, by rw [h.own.cellAt i (by omega)]; exact hu, (h.row i u l hu hl).1⟩
def flatWp (l : List Wp) : List Value := l.flatMap fun p => [.string p.n, .int .i64 p.r, .int .i64 p.c]
theorem flatWp_snoc (l : List Wp) (p : Wp) : flatWp (l ++ [p]) = flatWp l ++ [.string p.n, .int .i64 p.r, .int .i64 p.c] := by simp [flatWp]
theorem flatWp_get : ∀ (l : List Wp) (i : Nat) (p : Wp), l[i]? = some p → (flatWp l)[i * 3]? = some (.string p.n) ∧ (flatWp l)[i * 3 + 1]? = some (.int .i64 p.r) ∧ (flatWp l)[i * 3 + 2]? = some (.int .i64 p.c)
  | [], _, _, h => by simp at h
  | q :: l, 0, p, h => by
    simp only [List.getElem?_cons_zero, Option.some.injEq] at h
    subst h
    exact ⟨rfl, rfl, rfl⟩
  | q :: l, i + 1, p, h => by
    have := flatWp_get l i p (by simpa using h)
    show ([Value.string q.n, .int .i64 q.r, .int .i64 q.c] ++ flatWp l)[(i + 1) * 3]? = _ ∧ ([Value.string q.n, .int .i64 q.r, .int .i64 q.c] ++ flatWp l)[(i + 1) * 3 + 1]? = _ ∧ ([Value.string q.n, .int .i64 q.r, .int .i64 q.c] ++ flatWp l)[(i + 1) * 3 + 2]? = _
    refine ⟨?_, ?_, ?_⟩
    · rw [List.getElem?_append_right (by show 3 ≤ _; omega), show (i + 1) * 3 - [Value.string q.n, .int .i64 q.r, .int .i64 q.c].length = i * 3 by show _ - 3 = _; omega]; exact this.1
    · rw [List.getElem?_append_right (by show 3 ≤ _; omega), show (i + 1) * 3 + 1 - [Value.string q.n, .int .i64 q.r, .int .i64 q.c].length = i * 3 + 1 by show _ - 3 = _; omega]; exact this.2.1
    · rw [List.getElem?_append_right (by show 3 ≤ _; omega), show (i + 1) * 3 + 2 - [Value.string q.n, .int .i64 q.r, .int .i64 q.c].length = i * 3 + 2 by show _ - 3 = _; omega]; exact this.2.2
theorem isWps_own {w : World} {base : Nat} {e : TypeId} {v : Value} {l : List Wp} (h : w.ownsRow base e 3 v l.length (flatWp l)) : IsWps w v l := by
  rcases h.2 with ⟨h0, h1⟩ | ⟨g, cap, cur, rfl, hb, ho, h1, h2, h3⟩
  · exact .inl ⟨h0, List.length_eq_zero_iff.1 (by omega)⟩
  · refine .inr ⟨⟨g, 0, none⟩, cap, rfl, h1, h2, fun i p hp => ?_⟩
    have hi : i < l.length := (List.getElem?_eq_some_iff.1 hp).1
    obtain ⟨k1, k2, k3⟩ := flatWp_get l i p hp
    rw [addz]
    exact ⟨(h.cellAt (i * 3) (by omega)).trans k1, (h.cellAt (i * 3 + 1) (by omega)).trans k2, (h.cellAt (i * 3 + 2) (by omega)).trans k3⟩
end Go.Proofs.YthlileddhgglnaaDoor

namespace Go.Proofs.YthlileddhgglnaaDoor
open Go.RowKit
set_option linter.unusedVariables false
theorem wellInfoP : (Tryd.prog.info? 49).map (fun i => (i.zero, i.size, i.bytes)) = some (some (.agg #[.string ⟨#[]⟩, .int .i64 0, .int .i64 0]), 3, 32) := by kernel_rfl
def kSt : List (Option TypeId) := [some 47, some 49]
def kWl : List (Option TypeId) := [some 49]
theorem own_slice {w : World} {base : Nat} {e : TypeId} {size n : Nat} {v : Value} {xs : List Value} (h : w.ownsRow base e size v n xs) : ∃ so sc, v = .slice so n sc := by
  rcases h.2 with ⟨h0, h1⟩ | ⟨g, cap, cur, rfl, _⟩
  · exact ⟨none, 0, by rw [h0, h1]⟩
  · exact ⟨_, _, rfl⟩
theorem far_ownU {w : World} {b2 : Nat} {e2 t : TypeId} {s2 n2 : Nat} {v2 : Value} {x2 : List Value} {i : Nat} {cs : Array Value} (ho : w.heap[i]? = some (.cells cs t (0, 0))) (h2 : w.ownsRow b2 e2 s2 v2 n2 x2) (he : t ≠ e2) : v2.ownBlock ≠ some i :=
  obj_apart ho h2 (fun e => he (by simpa [kindO] using e))
theorem own_tnU {K : List (Option TypeId)} {b base : Nat} {w w' : World} {e : TypeId} {size n : Nat} {v : Value} {xs : List Value} (h : w.ownsRow base e size v n xs) (t : Tn K b w w') (hK : some e ∉ K) : w'.ownsRow base e size v n xs := by
  refine ⟨h.1, ?_⟩
  rcases h.2 with hn | ⟨g, cap, cur, rfl, hb, hg, rest⟩
  · exact .inl hn
  · exact .inr ⟨g, cap, cur, rfl, hb, t.objc hg hK, rest⟩
theorem ownsRow_set {w : World} {base : Nat} {e : TypeId} {size n : Nat} {v : Value} {xs : List Value} (h : w.ownsRow base e size v n xs) {b : Nat} {cs : Array Value} {t : TypeId} (ho : w.heap[b]? = some (.cells cs t (0, 0))) (ht : t ≠ e) (k : Nat) (x : Value) : (w.setCell ⟨b, k, none⟩ x).ownsRow base e size v n xs :=
  own_tnU h (Tn.set (K := [some t]) (base := 0) (p := ⟨b, k, none⟩) (Tn.refl _ _ _) ho (by simp) (Nat.zero_le _) x) (by simp; exact fun h => ht h.symm)
structure StepU (w : World) (base b : Nat) (s : Sp) (wv : Value) : Prop where
  obj : w.heap[b]? = some (.cells #[.int .i64 s.k, .string s.n, wv, .int .i64 s.v, .int .i64 s.m] 47 (0, 0))
  row : w.ownsRow base 49 3 wv s.w.length (flatWp s.w)
theorem StepU.keep {w w' : World} {base b : Nat} {s : Sp} {wv : Value} (h : StepU w base b s wv) (q : B w w') : StepU w' base b s wv := ⟨q.obj h.obj, row_keep h.row q⟩
/-- Other boxes of steps stay. -/
def Oth (b : Nat) (w w' : World) : Prop := ∀ i cs, i ≠ b → w.heap[i]? = some (.cells cs 47 (0, 0)) → w'.heap[i]? = some (.cells cs 47 (0, 0))
theorem Oth.refl (b : Nat) (w : World) : Oth b w w := fun _ _ _ h => h
theorem Oth.trans {b : Nat} {u v w : World} (h : Oth b u v) (k : Oth b v w) : Oth b u w := fun i cs hi ho => k i cs hi (h i cs hi ho)
theorem Oth.b (b : Nat) {w w' : World} (q : B w w') : Oth b w w' := fun _ _ _ h => q.obj h
theorem Oth.set (b : Nat) (w : World) (k : Nat) (x : Value) : Oth b w (w.setCell ⟨b, k, none⟩ x) := fun i _ hi h => (Below.heap_setCell w ⟨b, k, none⟩ x i hi).trans h
theorem Oth.grown (b : Nat) {w w' : World} {base : Nat} {e : TypeId} {size n : Nat} {v : Value} {xs : List Value} (hg : w.grownBy w' v.ownBlock) (hr : w.ownsRow base e size v n xs) (he : 47 ≠ e) : Oth b w w' := fun _ _ _ h => obj_grown hg h (far_ownU h hr he)
end Go.Proofs.YthlileddhgglnaaDoor

namespace Go.Proofs.YthlileddhgglnaaDoor
open Go.RowKit
set_option linter.unusedVariables false
def Sp.cells (s : Sp) (u : Value) : List Value := [.int .i64 s.k, .string s.n, u, .int .i64 s.v, .int .i64 s.m]
def flatSp : List Sp → List Value → List Value
  | s :: SS, u :: vs => s.cells u ++ flatSp SS vs
  | _, _ => []
theorem flatSp_snoc : ∀ (SS : List Sp) (vs : List Value) (s : Sp) (u : Value), vs.length = SS.length → flatSp (SS ++ [s]) (vs ++ [u]) = flatSp SS vs ++ s.cells u
  | [], [], s, u, _ => by simp [flatSp]
  | [], _ :: _, s, u, h => by simp at h
  | _ :: _, [], s, u, h => by simp at h
  | t :: SS, v :: vs, s, u, h => by
    show t.cells v ++ flatSp (SS ++ [s]) (vs ++ [u]) = _
    rw [flatSp_snoc SS vs s u (by simpa using h), ← List.append_assoc]
    rfl
theorem flatSp_get : ∀ (SS : List Sp) (vs : List Value) (i k : Nat) (s : Sp) (u : Value), vs.length = SS.length → SS[i]? = some s → vs[i]? = some u → k < 5 → (flatSp SS vs)[i * 5 + k]? = (s.cells u)[k]?
  | [], _, i, k, s, u, _, h, _, _ => by simp at h
  | _ :: _, [], i, k, s, u, h, _, _, _ => by simp at h
  | t :: SS, v :: vs, 0, k, s, u, h, h1, h2, hk => by
    simp only [List.getElem?_cons_zero, Option.some.injEq] at h1 h2
    subst h1 h2
    show (t.cells v ++ flatSp SS vs)[0 * 5 + k]? = _
    rw [List.getElem?_append_left (by show 0 * 5 + k < 5; omega), Nat.zero_mul, Nat.zero_add]
  | t :: SS, v :: vs, i + 1, k, s, u, h, h1, h2, hk => by
    simp only [List.getElem?_cons_succ] at h1 h2
    show (t.cells v ++ flatSp SS vs)[(i + 1) * 5 + k]? = _
    rw [List.getElem?_append_right (by show 5 ≤ (i + 1) * 5 + k; omega), show (i + 1) * 5 + k - (t.cells v).length = i * 5 + k by show (i + 1) * 5 + k - 5 = _; omega]
    exact flatSp_get SS vs i k s u (by simpa using h) h1 h2 hk
theorem IsWps.block {w w' : World} {v : Value} {L : List Wp} (h : IsWps w v L) (hb : ∀ b, v.ownBlock = some b → b < w.heap.size → w'.heap[b]? = w.heap[b]?) : IsWps w' v L := by
  rcases h with h | ⟨a, cap, rfl, h2, h3, h4⟩
  · exact .inl h
  · refine .inr ⟨a, cap, rfl, h2, h3, fun i f hf => ?_⟩
    obtain ⟨k1, k2, k3⟩ := h4 i f hf
    have hlt := World.block_lt_of_cell? w _ k1
    have hab : (a.add (i * 3)).block = a.block := by unfold Addr.add; split <;> rfl
    rw [hab] at hlt
    have e := hb a.block rfl hlt
    have e' : w'.heap[(a.add (i * 3)).block]? = w.heap[(a.add (i * 3)).block]? := by rw [hab]; exact e
    exact ⟨(World.cell?_of_block (a := a.add (i * 3)) e').trans k1, (World.cell?_of_block (a := ⟨(a.add (i * 3)).block, (a.add (i * 3)).off + 1, none⟩) e').trans k2, (World.cell?_of_block (a := ⟨(a.add (i * 3)).block, (a.add (i * 3)).off + 2, none⟩) e').trans k3⟩
/-- Steps in a row that the call owns; their wells lie elsewhere. -/
structure StepsO (w : World) (base : Nat) (e : TypeId) (v : Value) (SS : List Sp) (vs : List Value) : Prop where
  len : vs.length = SS.length
  own : w.ownsRow base e 5 v SS.length (flatSp SS vs)
  row : ∀ (j : Nat) u s, vs[j]? = some u → SS[j]? = some s → IsWps w u s.w ∧ ∀ b, u.ownBlock = some b → v.ownBlock ≠ some b ∧ b < w.heap.size
theorem StepsO.keep {w w' : World} {base : Nat} {e : TypeId} {v : Value} {SS : List Sp} {vs : List Value} (h : StepsO w base e v SS vs) (q : B w w') : StepsO w' base e v SS vs :=
  ⟨h.len, row_keep h.own q, fun j u s hu hs => by
    obtain ⟨h1, h2⟩ := h.row j u s hu hs
    exact ⟨h1.keepB q, fun b hb => ⟨(h2 b hb).1, Nat.lt_of_lt_of_le (h2 b hb).2 q.below.size⟩⟩⟩
/-- A step more. -/
theorem steps_more {w1 w2 : World} {base : Nat} {e : TypeId} {v : Value} {SS : List Sp} {vs : List Value} {g cap : Nat} {u : Value} {s : Sp} (h : StepsO w1 base e v SS vs)
    (own : w2.ownsRow base e 5 (.slice (some ⟨g, 0, none⟩) (SS.length + 1) cap) (SS.length + 1) (flatSp SS vs ++ s.cells u)) (q : w1.grownBy w2 v.ownBlock) (hat : v.ownBlock = some g ∨ g = w1.heap.size)
    (hu : IsWps w1 u s.w) (hb : ∀ b, u.ownBlock = some b → v.ownBlock ≠ some b ∧ b < w1.heap.size) :
    StepsO w2 base e (.slice (some ⟨g, 0, none⟩) (SS ++ [s]).length cap) (SS ++ [s]) (vs ++ [u]) := by
  have hlen := h.len
  have key : ∀ (u : Value) (L : List Wp), IsWps w1 u L → (∀ b, u.ownBlock = some b → v.ownBlock ≠ some b ∧ b < w1.heap.size) → IsWps w2 u L ∧ ∀ b, u.ownBlock = some b → (Value.slice (some ⟨g, 0, none⟩) (SS ++ [s]).length cap).ownBlock ≠ some b ∧ b < w2.heap.size := by
    intro u L hu hh
    refine ⟨hu.block fun b' hb' hlt' => q.block b' hlt' (fun e => (hh b' hb').1 e.symm), fun b hb => ⟨fun e => ?_, Nat.lt_of_lt_of_le (hh b hb).2 q.size⟩⟩
    have hg : g = b := Option.some.inj e
    rcases hat with hat | hat
    · exact (hh b hb).1 (hat.trans (congrArg some hg))
    · have := (hh b hb).2
      omega
  have elen : (SS ++ [s]).length = SS.length + 1 := by simp
  refine ⟨by simp [hlen], ?_, fun j x t hx ht => ?_⟩
  · rw [flatSp_snoc _ _ _ _ hlen, elen]
    exact own
  rcases Nat.lt_or_ge j SS.length with hj | hj
  · rw [List.getElem?_append_left (by omega)] at hx ht
    obtain ⟨h1, h2⟩ := h.row j x t hx ht
    exact key x _ h1 h2
  · have hj' : j = SS.length := by
      have := (List.getElem?_eq_some_iff.1 ht).1
      simp at this
      omega
    subst hj'
    rw [List.getElem?_append_right (by omega)] at hx ht
    simp only [Nat.sub_self, List.getElem?_cons_zero, Option.some.injEq] at ht
    rw [show SS.length - vs.length = 0 by omega] at hx
    simp only [List.getElem?_cons_zero, Option.some.injEq] at hx
    subst hx ht
    exact key _ _ hu hb
theorem StepsO.is {w : World} {base : Nat} {e : TypeId} {v : Value} {SS : List Sp} {vs : List Value} (h : StepsO w base e v SS vs) : IsSps w v SS := by
  have hown := h.own
  rcases hown.2 with ⟨h0, h1⟩ | ⟨g, cap, cur, rfl, _, _, h1, h2, _⟩
  · exact .inl ⟨h0, List.length_eq_zero_iff.1 (by omega)⟩
  · refine .inr ⟨⟨g, 0, none⟩, cap, rfl, h1, h2, fun i s hs => ?_⟩
    have hi : i < SS.length := (List.getElem?_eq_some_iff.1 hs).1
    obtain ⟨u, hu⟩ : ∃ u, vs[i]? = some u := ⟨_, List.getElem?_eq_getElem (by rw [h.len]; exact hi)⟩
    have hc : ∀ k, k < 5 → w.cell? ⟨g, i * 5 + k, none⟩ = (s.cells u)[k]? := fun k hk => by
      rw [h.own.cellAt (i * 5 + k) (by omega)]
      exact flatSp_get SS vs i k s u h.len hs hu hk
    have ha : (⟨g, 0, none⟩ : Addr).add (i * 5) = ⟨g, i * 5, none⟩ := addz g (i * 5)
    rw [ha]
    exact ⟨hc 0 (by omega), hc 1 (by omega), ⟨u, hc 2 (by omega), (h.row i u s hu hs).1⟩, hc 3 (by omega), hc 4 (by omega)⟩
/-- Three wells in a block. -/
theorem wps_three {w : World} {g : Nat} {p1 p2 p3 : Wp} {t : TypeId} {fz : Nat × Nat} (h : w.heap[g]? = some (.cells #[.string p1.n, .int .i64 p1.r, .int .i64 p1.c, .string p2.n, .int .i64 p2.r, .int .i64 p2.c, .string p3.n, .int .i64 p3.r, .int .i64 p3.c] t fz)) {n : Nat} (h1 : 1 ≤ n) (h3 : n ≤ 3) :
    IsWps w (.slice (some ⟨g, 0, none⟩) n 3) ([p1, p2, p3].take n) := by
  refine .inr ⟨⟨g, 0, none⟩, 3, by rw [List.length_take]; simp; omega, by rw [List.length_take]; simp; omega, by unfold maxLen; omega, fun i f hf => ?_⟩
  have hi : i < n := by
    have := (List.getElem?_eq_some_iff.1 hf).1
    rw [List.length_take] at this
    omega
  rw [List.getElem?_take_of_lt hi] at hf
  have hc : ∀ k, w.cell? ⟨g, k, none⟩ = _ := fun k => obj_cell h k
  rw [addz]
  match i, hf with
  | 0, hf => simp at hf; subst hf; exact ⟨hc 0, hc 1, hc 2⟩
  | 1, hf => simp at hf; subst hf; exact ⟨hc 3, hc 4, hc 5⟩
  | 2, hf => simp at hf; subst hf; exact ⟨hc 6, hc 7, hc 8⟩
  | i + 3, hf => omega
end Go.Proofs.YthlileddhgglnaaDoor

namespace Go.Proofs.YthlileddhgglnaaDoor
open Go.RowKit
set_option linter.unusedVariables false
theorem stepInfoP : (Tryd.prog.info? 47).map (fun i => (i.zero, i.size, i.bytes)) = some (some (.agg #[.int .i64 0, .string ⟨#[]⟩, .slice none 0 0, .int .i64 0, .int .i64 0]), 5, 64) := by kernel_rfl
theorem intsInfoP : (Tryd.prog.info? 88).map (fun i => (i.zero, i.size, i.bytes)) = some (some (.slice none 0 0), 1, 24) := by kernel_rfl
theorem own_grownU {w w' : World} {b1 b2 : Nat} {e1 e2 : TypeId} {s1 s2 n1 n2 : Nat} {v1 v2 : Value} {x1 x2 : List Value} (h : w.ownsRow b1 e1 s1 v1 n1 x1) (hg : w.grownBy w' v2.ownBlock) (hr : w.ownsRow b2 e2 s2 v2 n2 x2) (he : e1 ≠ e2) : w'.ownsRow b1 e1 s1 v1 n1 x1 := by
  refine ⟨h.1, ?_⟩
  rcases h.2 with hn | ⟨g, cap, cur, rfl, hb, ho, rest⟩
  · exact .inl hn
  · exact .inr ⟨g, cap, cur, rfl, hb, obj_grown hg ho (far_ownU ho hr he), rest⟩
theorem own_lowU {w : World} {base base' : Nat} {e : TypeId} {size n : Nat} {v : Value} {xs : List Value} (h : w.ownsRow base e size v n xs) (hb : base' ≤ base) : w.ownsRow base' e size v n xs := by
  refine ⟨h.1, ?_⟩
  rcases h.2 with hn | ⟨g, cap, cur, rfl, hbg, rest⟩
  · exact .inl hn
  · exact .inr ⟨g, cap, cur, rfl, Nat.le_trans hb hbg, rest⟩
theorem results_tmp4 {fn : Func} {t u v x : Tmp} (h : fn.results = #[.tmp t, .tmp u, .tmp v, .tmp x]) (tmps : Array Value) (P : Program) (w : World) :
    (results fn tmps).run P w = .ok (.tuple #[tmps.getD t undef, tmps.getD u undef, tmps.getD v undef, tmps.getD x undef]) w := by
  simp [results, h]
structure StP (w : World) (base : Nat) (sv : Value) (S : List Sp) (vs : List Value) (ov : Value) (P : List (List Nat)) (us : List Value) : Prop where
  sl : vs.length = S.length
  so : w.ownsRow base 47 5 sv S.length (flatSp S vs)
  sr : ∀ (j : Nat) u s, vs[j]? = some u → S[j]? = some s → w.ownsRow base 49 3 u s.w.length (flatWp s.w)
  pl : us.length = P.length
  po : w.ownsRow base 88 1 ov P.length us
  pr : ∀ (j : Nat) u l, us[j]? = some u → P[j]? = some l → w.ownsRow base 3 1 u l.length (flatI l)
theorem StP.nil (w : World) (base : Nat) : StP w base (.slice none 0 0) [] [] (.slice none 0 0) [] [] :=
  ⟨rfl, World.ownsRow_nil _ _ _ _, fun j u s h => by simp at h, rfl, World.ownsRow_nil _ _ _ _, fun j u s h => by simp at h⟩
section
variable {w w' : World} {base : Nat} {sv ov : Value} {S : List Sp} {vs us : List Value} {P : List (List Nat)}
theorem StP.keep (h : StP w base sv S vs ov P us) (q : B w w') : StP w' base sv S vs ov P us :=
  ⟨h.sl, row_keep h.so q, fun j u s hu hs => row_keep (h.sr j u s hu hs) q, h.pl, row_keep h.po q, fun j u s hu hs => row_keep (h.pr j u s hu hs) q⟩
theorem snoc_at {α : Type} {l : List α} {a x : α} {j n : Nat} (hn : l.length = n) (h : (l ++ [a])[j]? = some x) : (j < n ∧ l[j]? = some x) ∨ (j = n ∧ a = x) := by
  have hj := (List.getElem?_eq_some_iff.1 h).1
  rw [List.length_append, List.length_cons, List.length_nil] at hj
  rcases Nat.lt_or_ge j l.length with hlt | hge
  · rw [List.getElem?_append_left hlt] at h
    exact .inl ⟨by omega, h⟩
  · obtain rfl : j = l.length := by omega
    rw [List.getElem?_append_right (Nat.le_refl _), Nat.sub_self] at h
    exact .inr ⟨hn, by simpa using h⟩
theorem StP.addS (h : StP w base sv S vs ov P us) {sv' u : Value} {s : Sp} (hg : w.grownBy w' sv.ownBlock) (ho : w'.ownsRow base 47 5 sv' (S.length + 1) (flatSp S vs ++ s.cells u)) (hu : w.ownsRow base 49 3 u s.w.length (flatWp s.w)) :
    StP w' base sv' (S ++ [s]) (vs ++ [u]) ov P us := by
  refine ⟨by simp [h.sl], ?_, fun j u' s' h1 h2 => ?_, h.pl, own_grownU h.po hg h.so (by decide), fun j u' l' h1 h2 => own_grownU (h.pr j u' l' h1 h2) hg h.so (by decide)⟩
  · rw [flatSp_snoc _ _ _ _ h.sl, List.length_append]
    exact ho
  · rcases snoc_at h.sl h1 with ⟨a1, a2⟩ | ⟨a1, rfl⟩
    · rcases snoc_at rfl h2 with ⟨b1, b2⟩ | ⟨b1, rfl⟩
      · exact own_grownU (h.sr j u' s' a2 b2) hg h.so (by decide)
      · omega
    · rcases snoc_at rfl h2 with ⟨b1, b2⟩ | ⟨b1, rfl⟩
      · omega
      · exact own_grownU hu hg h.so (by decide)
theorem StP.addP (h : StP w base sv S vs ov P us) {ov' u : Value} {l : List Nat} (hg : w.grownBy w' ov.ownBlock) (ho : w'.ownsRow base 88 1 ov' (P.length + 1) (us ++ [u])) (hu : w.ownsRow base 3 1 u l.length (flatI l)) :
    StP w' base sv S vs ov' (P ++ [l]) (us ++ [u]) := by
  refine ⟨h.sl, own_grownU h.so hg h.po (by decide), fun j u' s' h1 h2 => own_grownU (h.sr j u' s' h1 h2) hg h.po (by decide), by simp [h.pl], ?_, fun j u' s' h1 h2 => ?_⟩
  · rw [List.length_append]
    exact ho
  · rcases snoc_at h.pl h1 with ⟨a1, a2⟩ | ⟨a1, rfl⟩
    · rcases snoc_at rfl h2 with ⟨b1, b2⟩ | ⟨b1, rfl⟩
      · exact own_grownU (h.pr j u' s' a2 b2) hg h.po (by decide)
      · omega
    · rcases snoc_at rfl h2 with ⟨b1, b2⟩ | ⟨b1, rfl⟩
      · omega
      · exact own_grownU hu hg h.po (by decide)
theorem StP.isS (h : StP w base sv S vs ov P us) : IsSps w sv S := by
  have hown := h.so
  rcases hown.2 with ⟨h0, h1⟩ | ⟨g, cap, cur, rfl, _, _, h1, h2, _⟩
  · exact .inl ⟨h0, List.length_eq_zero_iff.1 (by omega)⟩
  · refine .inr ⟨⟨g, 0, none⟩, cap, rfl, h1, h2, fun i s hs => ?_⟩
    have hi : i < S.length := (List.getElem?_eq_some_iff.1 hs).1
    obtain ⟨u, hu⟩ : ∃ u, vs[i]? = some u := ⟨_, List.getElem?_eq_getElem (by rw [h.sl]; exact hi)⟩
    have hc : ∀ k, k < 5 → w.cell? ⟨g, i * 5 + k, none⟩ = (s.cells u)[k]? := fun k hk => by
      rw [h.so.cellAt (i * 5 + k) (by omega)]
      exact flatSp_get S vs i k s u h.sl hs hu hk
    have ha : (⟨g, 0, none⟩ : Addr).add (i * 5) = ⟨g, i * 5, none⟩ := addz g (i * 5)
    rw [ha]
    exact ⟨hc 0 (by omega), hc 1 (by omega), ⟨u, hc 2 (by omega), isWps_own (h.sr i u s hu hs)⟩, hc 3 (by omega), hc 4 (by omega)⟩
theorem StP.isP (h : StP w base sv S vs ov P us) : IsPls w ov P := by
  have hown := h.po
  rcases hown.2 with ⟨h0, h1⟩ | ⟨g, cap, cur, rfl, _, _, h1, h2, _⟩
  · exact .inl ⟨h0, List.length_eq_zero_iff.1 (by omega)⟩
  · refine .inr ⟨g, cap, rfl, h1, h2, fun i l hl => ?_⟩
    have hi : i < P.length := (List.getElem?_eq_some_iff.1 hl).1
    obtain ⟨u, hu⟩ : ∃ u, us[i]? = some u := ⟨_, List.getElem?_eq_getElem (by rw [h.pl]; exact hi)⟩
    exact ⟨u, by rw [h.po.cellAt i (by omega)]; exact hu, isIs_own (h.pr i u l hu hl)⟩
end
/-- What lines tell. -/
def ProtoRes (LL : List (List Wd)) (w : World) (e : Ending) (w' : World) : Prop :=
  (∃ S sv ov, parseP LL [] = .ok S ∧ e = .returned (.tuple #[sv, ov, .int .i64 0, .int .i64 0]) ∧ IsSps w' sv S ∧ IsPls w' ov (placesP LL) ∧ B w w') ∨
  (∃ p n : Nat, parseP LL [] = .error (p, n) ∧ e = .returned (.tuple #[.slice none 0 0, .slice none 0 0, .int .i64 (p : Int), .int .i64 (n : Int)]) ∧ B w w')
end Go.Proofs.YthlileddhgglnaaDoor

namespace Go.Proofs.YthlileddhgglnaaDoor
open Go.RowKit
set_option linter.unusedVariables false
structure LnP (w : World) (base : Nat) (ov : Value) (LL : List (List Wd)) (us : List Value) : Prop where
  ul : us.length = LL.length
  ow : w.ownsRow base 101 1 ov LL.length us
  ur : ∀ (j : Nat) u L, us[j]? = some u → LL[j]? = some L → w.ownsRow base 105 2 u L.length (flatW L)
theorem LnP.nil (w : World) (base : Nat) : LnP w base (.slice none 0 0) [] [] := ⟨rfl, World.ownsRow_nil _ _ _ _, fun j u L h => by simp at h⟩
theorem LnP.keep {w w' : World} {base : Nat} {ov : Value} {LL : List (List Wd)} {us : List Value} (h : LnP w base ov LL us) (q : B w w') : LnP w' base ov LL us :=
  ⟨h.ul, row_keep h.ow q, fun j u L h1 h2 => row_keep (h.ur j u L h1 h2) q⟩
theorem LnP.add {w w' : World} {base : Nat} {ov ov' u : Value} {LL : List (List Wd)} {us : List Value} {L : List Wd} (h : LnP w base ov LL us) (hg : w.grownBy w' ov.ownBlock) (ho : w'.ownsRow base 101 1 ov' (LL.length + 1) (us ++ [u])) (hu : w.ownsRow base 105 2 u L.length (flatW L)) : LnP w' base ov' (LL ++ [L]) (us ++ [u]) := by
  refine ⟨by simp [h.ul], ?_, fun j u' l' h1 h2 => ?_⟩
  · rw [List.length_append]
    exact ho
  · rcases snoc_at h.ul h1 with ⟨a1, a2⟩ | ⟨a1, rfl⟩
    · rcases snoc_at rfl h2 with ⟨b1, b2⟩ | ⟨b1, rfl⟩
      · exact own_grownU (h.ur j u' l' a2 b2) hg h.ow (by decide)
      · omega
    · rcases snoc_at rfl h2 with ⟨b1, b2⟩ | ⟨b1, rfl⟩
      · omega
      · exact own_grownU hu hg h.ow (by decide)
theorem words_ownV {w : World} {base : Nat} {e : TypeId} {u : Value} {ws : List Wd} (h : w.ownsRow base e 2 u ws.length (flatW ws)) : IsWords w u ws := by
  obtain ⟨so, sc, rfl⟩ := own_slice h
  exact words_own h rfl
theorem LnP.is {w : World} {base : Nat} {ov : Value} {LL : List (List Wd)} {us : List Value} (h : LnP w base ov LL us) : IsLnO w ov LL := by
  have hown := h.ow
  rcases hown.2 with ⟨h0, h1⟩ | ⟨g, cap, cur, rfl, _, _, h1, h2, _⟩
  · exact .inl ⟨h0, List.length_eq_zero_iff.1 (by omega)⟩
  · refine .inr ⟨g, 0, cap, rfl, h1, h2, fun i L hL => ?_⟩
    have hi : i < LL.length := (List.getElem?_eq_some_iff.1 hL).1
    obtain ⟨u, hu⟩ : ∃ u, us[i]? = some u := ⟨_, List.getElem?_eq_getElem (by rw [h.ul]; exact hi)⟩
    exact ⟨u, by rw [Nat.zero_add, h.ow.cellAt i (by omega)]; exact hu, words_ownV (h.ur i u L hu hL)⟩
set_option maxHeartbeats 4000000 in
set_option maxRecDepth 100000 in
theorem words12e_any (v : Value) (LL : List (List Wd)) (w : World) (h : IsLnO w v LL) (hL : LL.length ≤ 65536) (hws : ∀ L ∈ LL, L.length ≤ 65536) :
    Calls Tryd.prog 17 #[v] w fun e w' => ∃ u us, e = .returned u ∧ LnP w' w.heap.size u LL us ∧ B w w' := by
  obtain ⟨ao, ac, rfl⟩ := h.form
  obtain ⟨i0, hi0, hz0, hz1, hz2⟩ := info_of lnInfoV
  obtain ⟨i1, hi1, hy0, hy1, hy2⟩ := info_of wdInfoV
  obtain ⟨lk, hlk⟩ : ∃ lk, LL.length = lk := ⟨_, rfl⟩
  have HI := Lib.hid h
  have HL := Lib.hid hlk
  have hL9 : lk ≤ 65536 := by omega
  rw [hlk]
  clear h hlk hL
  go_enter Tryd.func17, Tryd.ntmps17
  go_wp2
  go_loopw [3, 4] (fun ov iv wr => ∃ (i : Nat) (ao1 : Option Addr) (c1 : Nat) (us : List Value), i ≤ lk ∧ iv = .int .i64 i ∧ ov = .slice ao1 i c1 ∧ LnP wr w.heap.size (.slice ao1 i c1) (LL.take i) us ∧ B w wr) (fun _ iv _ => lk + 1 - (intOf iv).toNat)
  case atStart => exact ⟨0, none, 0, [], Nat.zero_le _, rfl, rfl, LnP.nil _ _, B.refl _⟩
  case round =>
    obtain ⟨i, ao1, c1, us, hi, rfl, rfl, hO, hB⟩ := hrel
    obtain ⟨wo, rfl⟩ : ∃ wo : World, wo = wr := ⟨_, rfl⟩
    by_cases hl : i < lk
    · have hlB : decide ((i : Int) < (lk : Int)) = true := decide_eq_true (by omega)
      have hlN : decide (i < lk) = true := decide_eq_true hl
      have hlI : (i : Int) < (lk : Int) := by omega
      have hi0' : (0 : Int) ≤ (i : Int) := by omega
      have wk1 : IntKind.i64.wrap ((i : Int) + 1) = (i : Int) + 1 := by rw [IntKind.wrap_i64]; omega
      obtain ⟨L, hF⟩ : ∃ L, LL[i]? = some L := ⟨_, List.getElem?_eq_getElem (by rw [HL.out]; exact hl)⟩
      obtain ⟨g, o, cap, u, e1, hu, hW⟩ := HI.out.at_ (i := i) (by rw [HL.out]; exact hl)
      rw [show LL[i]'(by rw [HL.out]; exact hl) = L by rw [List.getElem?_eq_getElem (by rw [HL.out]; exact hl)] at hF; simpa using hF] at hW
      rw [HL.out] at e1
      obtain ⟨rfl, rfl⟩ : ao = some ⟨g, o, none⟩ ∧ ac = cap := by simpa using e1
      have hL16 := hws L (List.mem_of_getElem? hF)
      obtain ⟨uo, uc, rfl⟩ := hW.form
      have ht1 : LL.take (i + 1) = LL.take i ++ [L] := by rw [List.take_add_one, hF]; rfl
      have htl : (LL.take i).length = i := by rw [List.length_take]; have := HL.out; omega
      obtain ⟨ln, hln⟩ : ∃ ln, L.length = ln := ⟨_, rfl⟩
      rw [hln] at hu hL16
      have HO := Lib.hid (And.intro ht1 (And.intro htl (And.intro hl (And.intro hO (And.intro hB hln)))))
      have hb1 := hB.below.size
      have hu0 := hB.keep hu
      clear ht1 e1 hF hl hO htl hln hi
      go_wp2_with fail
      go_loopw [5, 6] (fun lv kv wr => ∃ (k : Nat) (ao2 : Option Addr) (c2 : Nat), k ≤ ln ∧ kv = .int .i64 k ∧ lv = .slice ao2 k c2 ∧ wr.ownsRow wo.heap.size 105 2 (.slice ao2 k c2) k (flatW (L.take k)) ∧ B wo wr) (fun _ kv _ => ln + 1 - (intOf kv).toNat)
      case atStart => exact ⟨0, none, 0, Nat.zero_le _, rfl, rfl, World.ownsRow_nil _ _ _ _, B.refl _⟩
      case round =>
        obtain ⟨k, ao2, c2, hk, rfl, rfl, hown, hB2⟩ := hrel
        obtain ⟨wv, rfl⟩ : ∃ wv : World, wv = wr := ⟨_, rfl⟩
        have hu2 := hB2.keep hu0
        by_cases hlk : k < ln
        · have hkB : decide ((k : Int) < (ln : Int)) = true := decide_eq_true (by omega)
          have hkN : decide (k < ln) = true := decide_eq_true hlk
          have hkI : (k : Int) < (ln : Int) := by omega
          have hk0 : (0 : Int) ≤ (k : Int) := by omega
          have wk2 : IntKind.i64.wrap ((k : Int) + 1) = (k : Int) + 1 := by rw [IntKind.wrap_i64]; omega
          obtain ⟨x, hx⟩ : ∃ x, L[k]? = some x := ⟨_, List.getElem?_eq_getElem (by have := HO.out.2.2.2.2.2; omega)⟩
          obtain ⟨gl, cl, e9, _, _, _, hwd⟩ := hW.full (by have := HO.out.2.2.2.2.2; omega)
          obtain ⟨rfl, rfl⟩ : uo = some ⟨gl, 0, none⟩ ∧ uc = cl := by simpa using e9
          obtain ⟨n1, n2⟩ := hwd k x hx
          have hfl : flatW (L.take (k + 1)) = flatW (L.take k) ++ [.int .i64 ((x.1 : Nat) : Int), .string (strB x.2)] := by rw [List.take_add_one, hx]; exact flatW_snoc _ x
          obtain ⟨A, hA⟩ : ∃ A, x.1 = A := ⟨_, rfl⟩
          obtain ⟨S, hS⟩ : ∃ S, strB x.2 = S := ⟨_, rfl⟩
          rw [hA, hS] at hfl
          rw [hA] at n1
          rw [hS] at n2
          have x0 := hu2
          have x1 := (HO.out.2.2.2.2.1.trans hB2).keep n1
          have x2 := (HO.out.2.2.2.2.1.trans hB2).keep n2
          have qA : B wv (wv.alloc (.cells #[.int .i64 (A : Int), .string S] 105)) := (B.refl _).alloc _ _
          have own2 := row_keep hown qA
          have q2 := hB2.trans qA
          have hb2 : wo.heap.size ≤ (wv.alloc (.cells #[.int .i64 (A : Int), .string S] 105)).heap.size := q2.below.size
          have HM := Lib.hid (And.intro hfl (And.intro hlk (And.intro q2 own2)))
          clear hfl hlk hx hA hS n1 n2 hown hB2 hu2 e9 hwd hk qA
          go_wp2_with fail
          refine wp_region_noPanic ?_
          refine wp_region_gate (S := fun w' => w'.cell? ⟨g, o + i, none⟩ = some (.slice (some ⟨gl, 0, none⟩) ln uc) ∧ w'.cell? ⟨gl, k * 2, none⟩ = some (.int .i64 (A : Int)) ∧ w'.cell? ⟨gl, k * 2 + 1, none⟩ = some (.string S)) 19 [(0, 3), (1, 3), (2, 3), (3, 3), (4, 0), (5, 3), (6, 3), (7, 3), (8, 0), (9, 3), (10, 3), (11, 3), (12, 0), (13, 3), (14, 3), (15, 3), (16, 0), (17, 3), (18, 2), (19, 4), (20, 3)] [0, 0, 0, 6, 8, 0, 48, 64, 128, 0, 0, 1536, 2048, 0, 12288, 16384, 32768, 65792, 131072, 262145, 1048575] [0, 0, 0, 6, 8, 0, 48, 64, 128, 0, 0, 1536, 2048, 0, 12288, 16384, 32768, 65792, 131072, 262145, 524289] [0, 0, 0, 0, 1966544, 0, 0, 0, 1966336, 0, 0, 0, 2084864, 0, 0, 0, 2031616, 0, 0, 0, 0] (by kernel_rfl) (by kernel_rfl) (fun _ _ _ _ _ h => h) ?_ (fun hH => ?_)
          · exact ⟨x0, x1, x2⟩
          refine wpSeqG_free (d := 22) (v := ?_) rfl rfl (by kernel_rfl) (fun w => ?_) ?_
          rotate_left
          · go_simp <;> with_reducible rfl
          dsimp only [List.set_cons_zero, List.set_cons_succ]
          refine wpSeqG_free (d := 23) (v := ?_) rfl rfl (by kernel_rfl) (fun w => ?_) ?_
          rotate_left
          · go_simp <;> with_reducible rfl
          dsimp only [List.set_cons_zero, List.set_cons_succ]
          refine wpSeqG_free (d := 24) (v := ?_) rfl rfl (by kernel_rfl) (fun w => ?_) ?_
          rotate_left
          · go_simp <;> with_reducible rfl
          dsimp only [List.set_cons_zero, List.set_cons_succ]
          refine wpSeqG_free (d := 25) (v := ?_) rfl rfl (by kernel_rfl) (fun w => ?_) ?_
          rotate_left
          · go_simp <;> with_reducible rfl
          dsimp only [List.set_cons_zero, List.set_cons_succ]
          refine wpSeqG_take (d := 26) (v := ?_) rfl rfl (by kernel_rfl) (fun w hS => ?_) ?_
          rotate_left
          · go_simp <;> with_reducible rfl
          dsimp only [List.set_cons_zero, List.set_cons_succ]
          refine wpSeqG_free (d := 27) (v := ?_) rfl rfl (by kernel_rfl) (fun w => ?_) ?_
          rotate_left
          · go_simp <;> with_reducible rfl
          dsimp only [List.set_cons_zero, List.set_cons_succ]
          refine wpSeqG_free (d := 28) (v := ?_) rfl rfl (by kernel_rfl) (fun w => ?_) ?_
          rotate_left
          · go_simp <;> with_reducible rfl
          dsimp only [List.set_cons_zero, List.set_cons_succ]
          refine wpSeqG_free (d := 29) (v := ?_) rfl rfl (by kernel_rfl) (fun w => ?_) ?_
          rotate_left
          · go_simp <;> with_reducible rfl
          dsimp only [List.set_cons_zero, List.set_cons_succ]
          refine wpSeqG_take (d := 30) (v := ?_) rfl rfl (by kernel_rfl) (fun w hS => ?_) ?_
          rotate_left
          · go_simp <;> with_reducible rfl
          dsimp only [List.set_cons_zero, List.set_cons_succ]
          refine wpSeqG_free (d := 31) (v := ?_) rfl rfl (by kernel_rfl) (fun w => ?_) ?_
          rotate_left
          · go_simp <;> with_reducible rfl
          dsimp only [List.set_cons_zero, List.set_cons_succ]
          refine wpSeqG_free (d := 32) (v := ?_) rfl rfl (by kernel_rfl) (fun w => ?_) ?_
          rotate_left
          · go_simp <;> with_reducible rfl
          dsimp only [List.set_cons_zero, List.set_cons_succ]
          refine wpSeqG_free (d := 33) (v := ?_) rfl rfl (by kernel_rfl) (fun w => ?_) ?_
          rotate_left
          · go_simp <;> with_reducible rfl
          dsimp only [List.set_cons_zero, List.set_cons_succ]
          refine wpSeqG_take (d := 34) (v := ?_) rfl rfl (by kernel_rfl) (fun w hS => ?_) ?_
          rotate_left
          · go_simp <;> with_reducible rfl
          dsimp only [List.set_cons_zero, List.set_cons_succ]
          refine wpSeqG_free (d := 35) (v := ?_) rfl rfl (by kernel_rfl) (fun w => ?_) ?_
          rotate_left
          · go_simp <;> with_reducible rfl
          dsimp only [List.set_cons_zero, List.set_cons_succ]
          refine wpSeqG_free (d := 36) (v := ?_) rfl rfl (by kernel_rfl) (fun w => ?_) ?_
          rotate_left
          · go_simp <;> with_reducible rfl
          dsimp only [List.set_cons_zero, List.set_cons_succ]
          refine wpSeqG_free (d := 37) (v := ?_) rfl rfl (by kernel_rfl) (fun w => ?_) ?_
          rotate_left
          · go_simp <;> with_reducible rfl
          dsimp only [List.set_cons_zero, List.set_cons_succ]
          refine wpSeqG_take (d := 38) (v := ?_) rfl rfl (by kernel_rfl) (fun w hS => ?_) ?_
          rotate_left
          · go_simp <;> with_reducible rfl
          dsimp only [List.set_cons_zero, List.set_cons_succ]
          refine wpSeqG_free (d := 39) (v := ?_) rfl rfl (by kernel_rfl) (fun w => ?_) ?_
          rotate_left
          · go_simp <;> with_reducible rfl
          dsimp only [List.set_cons_zero, List.set_cons_succ]
          refine wpSeqG_call rfl (by kernel_rfl) (fun K hK => ?_)
          go_simp
          refine hK.out _ _ ?_ (fun hH => ?_)
          · first | exact ⟨x0, x1, x2⟩ | exact ⟨((B.refl _).alloc _ _).keep hH.1, ((B.refl _).alloc _ _).keep hH.2.1, ((B.refl _).alloc _ _).keep hH.2.2⟩
          clear hK
          refine wpSeqG_gate rfl (by kernel_rfl) (fun K hK => ?_)
          refine wp_append_lies _ _ _ 101 rfl wo.heap.size 105 i1 (.agg #[.int .i64 0, .string .empty]) 2 24 Tryd.underlying101 hi1 hy0 hy1 hy2 rfl (by omega) _ _ _ rfl own2 ⟨wv.heap.size, 0, none⟩ 1 1 [.int .i64 (A : Int), .string S] rfl rfl (news_plain rfl) (by intro u hu; simp only [List.mem_cons, List.not_mem_nil, or_false] at hu; rcases hu with rfl | rfl <;> rfl) (by omega) (by unfold maxLen; omega) (by omega) hb2 _ rfl ?_
          intro gN cN w9 hownN hgrowN hatN hltN
          try simp only [Act.put, List.setIfInBounds_toArray, List.set_cons_zero, List.set_cons_succ]
          refine hK.out _ _ ?_
          clear hK
          refine wpSeqG_free (d := 5) (v := ?_) rfl rfl (by kernel_rfl) (fun w => ?_) ?_
          rotate_left
          · go_simp <;> with_reducible rfl
          dsimp only [List.set_cons_zero, List.set_cons_succ]
          refine wpSeqG_done ?_
          refine NoPanic.normal ?_
          have HN := Lib.hid (And.intro hownN hgrowN)
          clear hownN hgrowN hatN hltN x0 x1 x2 own2 q2 hb2
          go_wp2
          go_roundw
          case rel => exact ⟨k + 1, some ⟨gN, 0, none⟩, cN, by have := HM.out.2.1; omega, by go_num, rfl, by rw [HM.out.1]; exact HN.out.1, HM.out.2.2.1.drew.grownBy HN.out.2 (fun x hx => (HM.out.2.2.2.lt x hx).1)⟩
          case measure => have := HM.out.2.1; simp [intOf]; omega
        · have hkB : decide ((k : Int) < (ln : Int)) = false := decide_eq_false (by omega)
          have hkN : decide (k < ln) = false := decide_eq_false hlk
          obtain rfl : k = ln := by omega
          rw [List.take_of_length_le (by have := HO.out.2.2.2.2.2; omega)] at hown
          have qA : B wv (wv.alloc (.cells #[.slice ao2 k c2] 101)) := (B.refl _).alloc _ _
          have hO2 := HO.out.2.2.2.1.keep (hB2.trans qA)
          have own2 := hO2.ow
          rw [HO.out.2.1] at own2
          have hx2 := own_lowU (base' := w.heap.size) (row_keep hown qA) hb1
          have q2 := HO.out.2.2.2.2.1.trans (hB2.trans qA)
          have hb2 := q2.below.size
          have HS := Lib.hid (And.intro hO2 (And.intro hx2 q2))
          have hi16 : i ≤ 65536 := by omega
          clear hO2 hown hB2 hx2 q2 hlk hk qA
          go_wp2_with (at_builtin; refine wpList_append_lies _ rfl _ _ 56 rfl w.heap.size 101 i0 _ 1 24 Tryd.underlying56 hi0 hz0 hz1 hz2 rfl (by omega) (.slice ao1 i c1) i us rfl own2 ⟨wv.heap.size, 0, none⟩ 1 1 [.slice ao2 k c2] rfl rfl (newest rfl) (by intro u hu; rw [List.mem_singleton.1 hu]; rfl) (by omega) (by unfold maxLen; omega) (by omega) hb2 _ rfl ?_; intro gb cp W4 hown4 hgrow hat4 hlt4; have hO4 := LnP.add (L := L) HS.out.1 hgrow (by rw [HO.out.2.1]; exact hown4) (by rw [HO.out.2.2.2.2.2]; exact HS.out.2.1); have B4 := HS.out.2.2.grownBy hgrow (fun x hx => (own2.lt x hx).1); clear hgrow hat4 hlt4 own2 hown4 hb2; replace hO4 := Lib.hid (And.intro hO4 B4); clear B4; go_wp2_with fail)
          go_roundw
          case rel => exact ⟨i + 1, some ⟨gb, 0, none⟩, cp, us ++ [.slice ao2 k c2], by have := HO.out.2.2.1; omega, by go_num, rfl, by rw [HO.out.1]; exact hO4.out.1, hO4.out.2⟩
          case measure => have := HO.out.2.2.1; simp [intOf]; omega
    · have hlB : decide ((i : Int) < (lk : Int)) = false := decide_eq_false (by omega)
      have hlN : decide (i < lk) = false := decide_eq_false hl
      obtain rfl : i = lk := by omega
      rw [List.take_of_length_le (by have := HL.out; omega)] at hO
      have HO := Lib.hid (And.intro hO hB)
      clear hO hB hws hl hi
      go_wp2
      go_ret
      exact ⟨_, us, rfl, HO.out.1, HO.out.2⟩
end Go.Proofs.YthlileddhgglnaaDoor

namespace Go.Proofs.YthlileddhgglnaaDoor
open Go.RowKit
set_option linter.unusedVariables false
theorem said_partsN {L : List (List (List UInt8))} {N : Nat} (hlen : (L.flatMap lineT).length ≤ N) (p : Nat) :
    (placeL p L).length = L.length ∧ (placeL p L).length ≤ N ∧ (∀ ws ∈ placeL p L, ws.length ≤ N) ∧ ∀ ws ∈ placeL p L, ∀ x ∈ ws, x.2.length ≤ N := by
  obtain ⟨g1, g2⟩ := flat_ge L
  have ht := placeL_texts p L
  have hm : ∀ ws ∈ placeL p L, ws.map Prod.snd ∈ L := fun ws hws => by
    have := List.mem_map_of_mem (f := List.map Prod.snd) hws
    rw [ht] at this
    exact this
  have h0 := congrArg List.length ht
  rw [List.length_map] at h0
  refine ⟨h0, by omega, fun ws hws => ?_, fun ws hws x hx => ?_⟩
  · have h1 := (lineT_ge (ws.map Prod.snd)).1
    have h2 := g2 _ (hm ws hws)
    rw [List.length_map] at h1
    omega
  · have h1 := (lineT_ge (ws.map Prod.snd)).2.2 x.2 (List.mem_map_of_mem hx)
    have h2 := g2 _ (hm ws hws)
    omega
theorem seat_read {d : Dk} (hb : ∀ x ∈ d.ws, wareB x) (hn : ∀ x ∈ d.ws, nameS x.n = true) (hc : 0 < countW d.ws) {ps : List Pz} (hp : ps.length ≤ 15) :
    ∃ LL, linesB (stepsT (seatSteps d ps)) = (LL, 0, 0) ∧ (stepsT (seatSteps d ps)).length ≤ 6000 ∧ 1 ≤ LL.length ∧ LL.length ≤ 6000 ∧ (∀ ws ∈ LL, ws.length ≤ 6000) ∧ ∀ ws ∈ LL, ∀ x ∈ ws, x.2.length ≤ 6000 := by
  have hst := seat_steps_ok (d := d) hb hn hc (ps := ps) (by omega)
  have hTS : stepsT (seatSteps d ps) = ((seatSteps d ps).map stepL).flatMap lineT := by unfold stepsT; rw [if_pos hst.1, List.flatMap_map]
  have hlen : (((seatSteps d ps).map stepL).flatMap lineT).length ≤ 6000 := by
    rw [List.flatMap_map]
    have := flat_len9 (fun s => lineT (stepL s)) 300 (seatSteps d ps) (fun s hs => by
      unfold seatSteps at hs
      rw [List.mem_cons] at hs
      rcases hs with rfl | hs
      · show (lineT (stepL ⟨0, nameT1, [], 0, 0⟩)).length ≤ 300
        rw [sl_0]
        decide
      · obtain ⟨p, _, rfl⟩ := List.mem_map.1 hs
        exact piece_len d p)
    have hl : (seatSteps d ps).length ≤ 16 := by unfold seatSteps; simp; omega
    omega
  have hs := lines_said (L := (seatSteps d ps).map stepL) (fun l hl => by
    obtain ⟨s, hs, rfl⟩ := List.mem_map.1 hl
    exact step_words (hst.2 s hs)) (by omega)
  obtain ⟨p0, p1, p2, p3⟩ := said_partsN hlen 0
  refine ⟨_, by rw [hTS]; exact hs, by rw [hTS]; exact hlen, ?_, p1, p2, p3⟩
  rw [p0, List.length_map]
  unfold seatSteps
  simp
theorem IsWords.rowIn {w : World} {v : Value} {L : List Wd} (h : IsWords w v L) : RowIn w v L.length (flatW L) := by
  rcases h with ⟨rfl, rfl⟩ | ⟨g, cap, rfl, h2, h3, h4⟩
  · exact .inl ⟨rfl, rfl, rfl⟩
  · refine .inr ⟨_, cap, rfl, fun j u hj => ?_⟩
    have hlt : j < (flatW L).length := (List.getElem?_eq_some_iff.1 hj).1
    rw [flatW_len] at hlt
    rw [addz]
    obtain ⟨i, r, rfl, hr⟩ : ∃ i r, j = i * 2 + r ∧ r < 2 := ⟨j / 2, j % 2, by omega, by omega⟩
    have hg := List.getElem?_eq_getElem (show i < L.length by omega)
    obtain ⟨f1, f2⟩ := flatW_get L i _ hg
    obtain ⟨k1, k2⟩ := h4 i _ hg
    obtain rfl | rfl : r = 0 ∨ r = 1 := by omega
    · exact k1.trans (f1.symm.trans hj)
    · exact k2.trans (f2.symm.trans hj)
theorem IsWords.oneCell {w : World} {v : Value} {L : List Wd} (h : IsWords w v L) : v.oneCell' = true := by
  obtain ⟨o, c, rfl⟩ := h.form
  rfl
theorem IsLnO.rowIn {w : World} {v : Value} {LL : List (List Wd)} (h : IsLnO w v LL) : ∃ us, us.length = LL.length ∧ RowIn w v LL.length us ∧ (∀ u ∈ us, u.oneCell' = true) ∧ ∀ (i : Nat) u L, us[i]? = some u → LL[i]? = some L → IsWords w u L := by
  rcases h with ⟨rfl, rfl⟩ | ⟨g, o, cap, rfl, h2, h3, h4⟩
  · exact ⟨[], rfl, .inl ⟨rfl, rfl, rfl⟩, by simp, fun i u L h => by simp at h⟩
  · have key : ∀ i, i < LL.length → ∃ u L, LL[i]? = some L ∧ w.cell? ⟨g, o + i, none⟩ = some u ∧ IsWords w u L := fun i hi => by
      obtain ⟨u, k1, k2⟩ := h4 i _ (List.getElem?_eq_getElem hi)
      exact ⟨u, _, List.getElem?_eq_getElem hi, k1, k2⟩
    refine ⟨(List.range LL.length).map fun i => (w.cell? ⟨g, o + i, none⟩).getD (.int .i64 0), by simp, .inr ⟨_, cap, rfl, fun j u hj => ?_⟩, fun u hu => ?_, fun i u L hu hL => ?_⟩
    · rw [List.getElem?_map, Option.map_eq_some_iff] at hj
      obtain ⟨i, hi, rfl⟩ := hj
      obtain ⟨hi1, hi2⟩ := List.getElem?_eq_some_iff.1 hi
      rw [List.getElem_range] at hi2
      subst hi2
      rw [List.length_range] at hi1
      obtain ⟨u, L, _, k1, _⟩ := key j hi1
      rw [show (⟨g, o, none⟩ : Addr).add j = ⟨g, o + j, none⟩ by unfold Addr.add; split <;> simp_all, k1]
      rfl
    · obtain ⟨i, hi, rfl⟩ := List.mem_map.1 hu
      obtain ⟨u, L, _, k1, k2⟩ := key i (List.mem_range.1 hi)
      rw [k1]
      exact k2.oneCell
    · rw [List.getElem?_map, Option.map_eq_some_iff] at hu
      obtain ⟨j, hj, rfl⟩ := hu
      obtain ⟨hj1, hj2⟩ := List.getElem?_eq_some_iff.1 hj
      rw [List.getElem_range] at hj2
      subst hj2
      rw [List.length_range] at hj1
      obtain ⟨u, L', e, k1, k2⟩ := key i hj1
      rw [hL] at e
      cases e
      rw [k1]
      exact k2
theorem lnO_of {w : World} {base : Nat} {e : TypeId} {ov : Value} {LL : List (List Wd)} {us : List Value} {n : Nat} (h : w.ownsRow base e 1 ov n us) (hn : n = LL.length) (hl : us.length = LL.length) (hu : ∀ (i : Nat) u L, us[i]? = some u → LL[i]? = some L → IsWords w u L) : IsLnO w ov LL := by
  subst hn
  have hown := h
  rcases hown.2 with ⟨h0, h1⟩ | ⟨g, cap, cur, rfl, _, _, h1, h2, _⟩
  · exact .inl ⟨h0, List.length_eq_zero_iff.1 (by omega)⟩
  · refine .inr ⟨g, 0, cap, rfl, h1, h2, fun i L hL => ?_⟩
    have hi : i < LL.length := (List.getElem?_eq_some_iff.1 hL).1
    obtain ⟨u, hu1⟩ : ∃ u, us[i]? = some u := ⟨_, List.getElem?_eq_getElem (by omega)⟩
    exact ⟨u, by rw [Nat.zero_add, h.cellAt i (by omega)]; exact hu1, hu i u L hu1 hL⟩
theorem flatW_set : ∀ (L : List Wd) (k : Nat) (x : Wd) (t : List UInt8), L[k]? = some x → flatW (L.set k (x.1, t)) = (flatW L).set (k * 2 + 1) (.string (strB t))
  | [], _, _, _, h => by simp at h
  | y :: l, 0, x, t, h => by
    simp at h; subst h; rfl
  | y :: l, k + 1, x, t, h => by
    have := flatW_set l k x t (by simpa using h)
    show [_, _] ++ flatW (l.set k (x.1, t)) = _
    rw [this, show (k + 1) * 2 + 1 = (k * 2 + 1) + 1 + 1 by omega]
    rfl
theorem words_take {w : World} {o : Option Addr} {n c : Nat} {L : List Wd} (h : IsWords w (.slice o n c) L) {k : Nat} (hk : k ≤ L.length) : IsWords w (.slice o k c) (L.take k) := by
  rcases h with ⟨h0, rfl⟩ | ⟨g, cap, h1, h2, h3, h4⟩
  · simp only [List.length_nil, Nat.le_zero] at hk
    subst hk
    simp only [Value.slice.injEq] at h0
    obtain ⟨rfl, rfl, rfl⟩ := h0
    exact .inl ⟨rfl, rfl⟩
  · simp only [Value.slice.injEq] at h1
    obtain ⟨rfl, rfl, rfl⟩ := h1
    refine .inr ⟨g, c, by rw [List.length_take, Nat.min_eq_left hk], by rw [List.length_take]; omega, h3, fun i x hx => h4 i x ?_⟩
    rw [List.getElem?_take] at hx
    split at hx
    · exact hx
    · simp at hx
/-- What a line may be. -/
def FineW (N : Nat) (L : List Wd) : Prop := L.length ≤ N ∧ ∀ x ∈ L, x.2.length ≤ 6000
theorem FineW.snoc {N : Nat} {L : List Wd} (h : FineW N L) {x : Wd} (hx : x.2.length ≤ 6000) : FineW (N + 1) (L ++ [x]) := by
  refine ⟨by simp; exact h.1, fun y hy => ?_⟩
  rcases List.mem_append.1 hy with hy | hy
  · exact h.2 y hy
  · rw [List.mem_singleton.1 hy]; exact hx
theorem FineW.take {N : Nat} {L : List Wd} (h : FineW N L) (k : Nat) : FineW (N + 1) (L.take k) :=
  ⟨by rw [List.length_take]; have := h.1; omega, fun y hy => h.2 y (List.mem_of_mem_take hy)⟩
theorem FineW.set {N : Nat} {L : List Wd} (h : FineW N L) (k : Nat) {x : Wd} (hx : x.2.length ≤ 6000) : FineW (N + 1) (L.set k x) := by
  refine ⟨by rw [List.length_set]; have := h.1; omega, fun y hy => ?_⟩
  rcases List.mem_or_eq_of_mem_set hy with hy | rfl
  · exact h.2 y hy
  · exact hx
theorem FineW.mono {N M : Nat} {L : List Wd} (h : FineW N L) (hm : N ≤ M) : FineW M L := ⟨Nat.le_trans h.1 hm, h.2⟩
end Go.Proofs.YthlileddhgglnaaDoor
