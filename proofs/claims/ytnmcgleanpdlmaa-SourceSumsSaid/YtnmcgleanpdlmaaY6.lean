/-
  The code's names: a map of what stands; add; Layer 11: a board in memory: its deck, its cache, its things by their names; The code's cache: a new one; Layer 11: copied: a deck in new memory; The code's filled wells: a map of wells.
-/
import Derived.DeepKeys4
import Derived.Maps.OwnSet
import Derived.Maps.OwnOps
import Derived.WalkSpells
import Derived.Carry
import Derived.Test.YtnmcgleanpdlmaaY1
import Derived.Test.YtnmcgleanpdlmaaY2
import Derived.Test.YtnmcgleanpdlmaaY3
import Derived.Test.YtnmcgleanpdlmaaY4
import Derived.Test.YtnmcgleanpdlmaaY5
namespace Go.Proofs.Ytnmcgleanpdlmaa
open Go.RowKit Go.Maps Go.WideMaps
set_option linter.unusedVariables false
theorem str9 : Keyed Try.prog 9 := string_keyed Try.underlying9
theorem int_zero (w : World) : (zeroValue 3).run Try.prog w = .ok (.int .i64 0) w := by kernel_rfl
def namedL (ns : List ByteArray) (s : ByteArray) : Bool := ns.any fun n => n.toList == s.toList
/-- A map of names, each with its place. -/
def NmAt (w : World) (b : Nat) (ns : List ByteArray) : Prop :=
  ∃ D : DataW Unit, w.ownsMap Try.prog 9 (plainElem Try.prog 3) b ns.length D ∧ Maps.Tidy D ∧ Maps.size D = ns.length ∧
    (∀ s : ByteArray, Maps.has D (.string s.data.toList) = namedL ns s) ∧
    ∀ (i : Nat) n, ns[i]? = some n → D.atKey (.string n.data.toList) (.lit (.int .i64 0)) = .lit (.int .i64 ((i : Nat) : Int))
theorem NmAt.new (w : World) : NmAt (w.alloc (.map #[] 0)) w.heap.size [] :=
  ⟨_, World.ownsMap_made w _ _ _, Maps.tidy_empty, rfl, fun _ => rfl, fun i n h => by simp at h⟩
theorem ownsMap_obj {P : Program} {k : TypeId} {R : Value → Option (DataW Unit × List MemPlace)} {w : World} {b n : Nat} {D : DataW Unit} (h : w.ownsMap P k R b n D) : ∃ es c, w.heap[b]? = some (.map es c) := by
  obtain ⟨es, c, h1, _⟩ := h
  exact ⟨es, c, h1⟩
theorem ownsMap_same {P : Program} {k : TypeId} {R : Value → Option (DataW Unit × List MemPlace)} {w w' : World} {b n : Nat} {D : DataW Unit} (h : w.ownsMap P k R b n D) (hb : w'.heap[b]? = w.heap[b]?) : w'.ownsMap P k R b n D := by
  obtain ⟨es, c, h1, h2⟩ := h
  exact ⟨es, c, hb.trans h1, h2⟩
theorem NmAt.same {w w' : World} {b : Nat} {ns : List ByteArray} (h : NmAt w b ns) (hb : w'.heap[b]? = w.heap[b]?) : NmAt w' b ns :=
  let ⟨D, h1, h2⟩ := h
  ⟨D, ownsMap_same h1 hb, h2⟩
theorem NmAt.obj {w : World} {b : Nat} {ns : List ByteArray} (h : NmAt w b ns) : ∃ es c, w.heap[b]? = some (.map es c) := let ⟨_, h1, _⟩ := h; ownsMap_obj h1
theorem namedL_snoc (ns : List ByteArray) (s x : ByteArray) : namedL (ns ++ [s]) x = (namedL ns x || s.toList == x.toList) := by simp [namedL]
theorem turned_tn {w w' : World} {b base : Nat} (h : w.mapTurned w' b) (hb : base ≤ b) {K : List (Option TypeId)} (hK : none ∈ K) : Tn K base w w' := by
  obtain ⟨es, c, es', c', ho, rfl⟩ := h
  refine ⟨rfl, rfl, rfl, by simp [ChangeMaps.setBlock], fun i hi => ?_⟩
  by_cases e : i = b
  · subst e
    exact .inr ⟨hb, none, _, hK, ho, rfl⟩
  · exact .inl (ChangeMaps.heap_setBlock_other ho _ e)
/-- Maps stay, but for one. -/
def Tm (b : Nat) (w w' : World) : Prop := ∀ i es c, i ≠ b → w.heap[i]? = some (.map es c) → w'.heap[i]? = some (.map es c)
theorem Tm.trans {b : Nat} {w1 w2 w3 : World} (h : Tm b w1 w2) (k : Tm b w2 w3) : Tm b w1 w3 := fun i es c hi ho => k i es c hi (h i es c hi ho)
theorem Tm.refl (b : Nat) (w : World) : Tm b w w := fun _ _ _ _ h => h
theorem Tn.tm {K : List (Option TypeId)} {base : Nat} {w w' : World} (t : Tn K base w w') (hK : none ∉ K) (b : Nat) : Tm b w w' := fun i es c _ ho => t.objm ho hK
theorem B.tm {w w' : World} (q : B w w') (b : Nat) : Tm b w w' := fun i es c _ ho => (q.below.block i (obj_lt ho)).trans ho
theorem turned_tm {w w' : World} {b : Nat} (h : w.mapTurned w' b) : Tm b w w' := fun i es c hi ho => by
  obtain ⟨es1, c1, es', c', hb, rfl⟩ := h
  exact (ChangeMaps.heap_setBlock_other hb _ hi).trans ho
theorem NmAt.tm {w w' : World} {b b' : Nat} {ns : List ByteArray} (h : NmAt w b ns) (t : Tm b' w w') (hb : b ≠ b') : NmAt w' b ns := by
  obtain ⟨es, c, ho⟩ := h.obj
  exact h.same ((t b es c hb ho).trans ho.symm)
/-- Names, one more if it may be. -/
def addN (ns : List ByteArray) (s : ByteArray) : List ByteArray := if (nameS s && !namedL ns s) = true then ns ++ [s] else ns
def kM : List (Option TypeId) := [none]
theorem key9 (s : ByteArray) (h : s.size ≤ maxLen) : keyOf Try.prog 9 (.string s) = some (.string s.data.toList) := by
  have := keyOf_string_mk (P := Try.prog) (k := 9) Try.underlying9 (s := s) h
  simpa using this
set_option maxHeartbeats 1000000 in
theorem lit_ne {s x : ByteArray} (h : (s.toList == x.toList) = false) : Lit.string x.data.toList ≠ Lit.string s.data.toList := by
  intro e
  rw [Lit.string.injEq] at e
  rw [Go.Lib.toList_data, Go.Lib.toList_data, e] at h
  simp at h
theorem names_put {D : DataW Unit} {ns : List ByteArray} {s : ByteArray} (hT : Maps.Tidy D) (hS : Maps.size D = ns.length) (hH : ∀ s : ByteArray, Maps.has D (.string s.data.toList) = namedL ns s)
    (hA : ∀ (i : Nat) n, ns[i]? = some n → D.atKey (.string n.data.toList) (.lit (.int .i64 0)) = .lit (.int .i64 ((i : Nat) : Int))) (hns : namedL ns s = false) :
    let D' := D.put (.string s.data.toList) (.lit (.int .i64 (ns.length : Int)))
    Maps.Tidy D' ∧ Maps.size D' = (ns ++ [s]).length ∧ (∀ x : ByteArray, Maps.has D' (.string x.data.toList) = namedL (ns ++ [s]) x) ∧
      ∀ (i : Nat) n, (ns ++ [s])[i]? = some n → D'.atKey (.string n.data.toList) (.lit (.int .i64 0)) = .lit (.int .i64 ((i : Nat) : Int)) := by
  have hk : WideAt.IsKeyLit (.string s.data.toList) := trivial
  refine ⟨hT.put hk _, ?_, fun x => ?_, fun i n hi => ?_⟩
  · rw [size_put hT, hH, hns]
    simp [hS]
  · rw [namedL_snoc]
    cases hx : s.toList == x.toList
    · rw [has_put_other (lit_ne hx), hH]
      simp
    · have e : s.data.toList = x.data.toList := by
        rw [← Go.Lib.toList_data, ← Go.Lib.toList_data]
        simpa using hx
      rw [← e, has_put_same hT.isMap hk]
      simp
  · by_cases hl : i < ns.length
    · rw [List.getElem?_append_left hl] at hi
      have hx : (s.toList == n.toList) = false := by
        cases hx : s.toList == n.toList
        · rfl
        · have : namedL ns s = true := List.any_eq_true.2 ⟨n, List.mem_of_getElem? hi, by simpa using (by simpa using hx : s.toList = n.toList).symm⟩
          rw [hns] at this
          cases this
      rw [atKey_put_other (lit_ne hx)]
      exact hA i n hi
    · rw [List.getElem?_append_right (by omega)] at hi
      have h0 : i - ns.length = 0 := by
        rcases Nat.eq_zero_or_pos (i - ns.length) with h | h
        · exact h
        · rw [List.getElem?_eq_none (by simp; omega)] at hi; cases hi
      rw [h0] at hi
      obtain rfl : s = n := by simpa using hi
      obtain rfl : i = ns.length := by omega
      rw [atKey_put_same hT.isMap hk]
set_option maxRecDepth 100000 in
theorem add_any (w : World) (base b : Nat) (ns : List ByteArray) (s : ByteArray) (hs : s.size ≤ maxLen) (hn : ns.length < 1000) (hb : base ≤ b) (h : NmAt w b ns) :
    Calls Try.prog 51 #[.map (some b), .string s] w fun r w' => r = .returned (.bool (nameS s && !namedL ns s)) ∧ NmAt w' b (addN ns s) ∧ Tn kM base w w' ∧ Tm b w w' := by
  unfold addN
  have hkey := key9 s hs
  have h0 := h
  obtain ⟨D, hD, hT, hS, hH, hA⟩ := h
  have hHs := hH s
  cases hns : namedL ns s
  · rw [hns] at hHs
    cases hok : nameS s
    · refine Calls.mono (R := fun r w' => r = .returned (.bool false) ∧ NmAt w' b ns ∧ Tn kM base w w' ∧ Tm b w w') ?_ (fun _ _ h => h)
      have HR := Lib.hid h0
      clear h0 hS hH hA hT hns
      go_enter Try.func51, Try.ntmps51
      go_wp2_with (first
        | (at_lookup; refine wpList_lookup_own_ok_int _ rfl _ _ 139 rfl 9 3 .i64 str9 Try.underlying139 Try.underlying3 (int_zero _) b _ D rfl hD _ _ rfl hkey ?_; intro c _ _; rw [hHs])
        | (go_at_call 71; refine (name_any _ _).mono ?_; rintro _ w1 ⟨rfl, q1⟩; simp only [hok]))
      go_ret
      exact ⟨rfl, HR.out.same (q1.below.block _ (by obtain ⟨es, c, ho⟩ := HR.out.obj; exact obj_lt ho)), q1.tn _ _, q1.tm b⟩
    · refine Calls.mono (R := fun r w' => r = .returned (.bool true) ∧ NmAt w' b (ns ++ [s]) ∧ Tn kM base w w' ∧ Tm b w w') ?_ (fun _ _ h => h)
      have HX := Lib.hid (And.intro hT (And.intro hS (And.intro hH (And.intro hA hns))))
      clear h0 hT hH hA hns
      go_enter Try.func51, Try.ntmps51
      go_wp2_with (first
        | (at_lookup; refine wpList_lookup_own_ok_int _ rfl _ _ 139 rfl 9 3 .i64 str9 Try.underlying139 Try.underlying3 (int_zero _) b _ D rfl hD _ _ rfl hkey ?_; intro c _ _; rw [hHs])
        | (go_at_call 71; refine (name_any _ _).mono ?_; rintro _ w1 ⟨rfl, q1⟩; simp only [hok]; have hD1 := ownsMap_same hD (q1.below.block _ hD.lt))
        | (at_len; refine wpList_len_own _ rfl _ 139 rfl 9 3 Try.underlying139 _ b _ D rfl hD1 ?_; rw [hS])
        | (at_mapUpdate; refine wpList_mapUpdate_in _ rfl _ _ _ 139 rfl 9 3 str9 Try.underlying139 _ b _ D rfl hD1 (by unfold maxLen; omega) _ _ _ rfl rfl hkey (.lit (.int .i64 (ns.length : Int))) [] (plainElem_int Try.underlying3 (by simp [Lit.wf, IntKind.min, IntKind.max, IntKind.signed, IntKind.bits]; omega)) ?_; intro w2 hD2 ht2))
      go_ret
      obtain ⟨hT, hS, hH, hA, hns⟩ := HX.out
      refine ⟨rfl, ?_, (q1.tn kM base).trans (turned_tn ht2 hb (by decide)), (q1.tm b).trans (turned_tm ht2)⟩
      have hp := names_put hT hS hH hA hns
      exact ⟨_, by simpa using hD2, hp⟩
  · rw [hns] at hHs
    rw [Bool.not_true, Bool.and_false]
    refine Calls.mono (R := fun r w' => r = .returned (.bool false) ∧ NmAt w' b ns ∧ Tn kM base w w' ∧ Tm b w w') ?_ (fun _ _ h => h)
    have HR := Lib.hid h0
    clear h0 hS hH hA hT hns
    go_enter Try.func51, Try.ntmps51
    go_wp2_with (first
      | (at_lookup; refine wpList_lookup_own_ok_int _ rfl _ _ 139 rfl 9 3 .i64 str9 Try.underlying139 Try.underlying3 (int_zero _) b _ D rfl hD _ _ rfl hkey ?_; intro c _ _; rw [hHs]))
    go_ret
    exact ⟨rfl, HR.out, Tn.refl _ _ _, Tm.refl _ _⟩
theorem NmAt.tn {K : List (Option TypeId)} {base : Nat} {w w' : World} {b : Nat} {ns : List ByteArray} (h : NmAt w b ns) (t : Tn K base w w') (hK : none ∉ K) : NmAt w' b ns := by
  obtain ⟨es, c, ho⟩ := h.obj
  exact h.same ((t.objm ho hK).trans ho.symm)
theorem addN_yes {ns : List ByteArray} {s : ByteArray} (h : (nameS s && !namedL ns s) = true) : addN ns s = ns ++ [s] := by unfold addN; rw [if_pos h]
end Go.Proofs.Ytnmcgleanpdlmaa

namespace Go.Proofs.Ytnmcgleanpdlmaa
open Go.RowKit Go.Maps Go.WideMaps
set_option linter.unusedVariables false
/-- What a map of things holds at a name. -/
def thD : List ByteArray → List Nat → ByteArray → DataW Unit
  | n :: ns, b :: bs, s => if n.toList == s.toList then .lit (.int .i64 b) else thD ns bs s
  | _, _, _ => .nil
theorem thD_no : ∀ (ns : List ByteArray) (bs : List Nat) (s : ByteArray), namedL ns s = false → thD ns bs s = .nil
  | [], _, _, _ => by simp [thD]
  | _ :: _, [], _, _ => by simp [thD]
  | n :: ns, b :: bs, s, h => by
    simp only [namedL, List.any_cons, Bool.or_eq_false_iff] at h
    rw [thD, h.1]
    exact thD_no ns bs s h.2
theorem thD_snoc : ∀ (ns : List ByteArray) (bs : List Nat) (n : ByteArray) (b : Nat) (s : ByteArray), ns.length = bs.length → thD (ns ++ [n]) (bs ++ [b]) s = if namedL ns s then thD ns bs s else if n.toList == s.toList then .lit (.int .i64 b) else .nil
  | [], [], n, b, s, _ => by simp [thD, namedL]
  | [], _ :: _, _, _, _, h => by simp at h
  | _ :: _, [], _, _, _, h => by simp at h
  | x :: ns, y :: bs, n, b, s, h => by
    show thD (x :: (ns ++ [n])) (y :: (bs ++ [b])) s = _
    rw [thD]
    cases hx : x.toList == s.toList
    · simp only [Bool.false_eq_true, if_false]
      rw [thD_snoc ns bs n b s (by simpa using h)]
      simp only [namedL, List.any_cons, hx, Bool.false_or]
      rw [thD, hx]
      simp
    · simp only [if_true]
      simp only [namedL, List.any_cons, hx, Bool.true_or, if_true]
      rw [thD, hx]
      simp
/-- A map of things. -/
def ThMap (w : World) (m : Nat) (ns : List ByteArray) (bs : List Nat) : Prop :=
  ∃ D : DataW Unit, w.ownsMap Try.prog 9 ptrElem m ns.length D ∧ Maps.IsMap D ∧ (∀ s : ByteArray, D.atKey (.string s.data.toList) .nil = thD ns bs s) ∧ ∀ s : ByteArray, Maps.has D (.string s.data.toList) = namedL ns s
theorem ThMap.same {w w' : World} {b : Nat} {ns : List ByteArray} {bs : List Nat} (h : ThMap w b ns bs) (hb : w'.heap[b]? = w.heap[b]?) : ThMap w' b ns bs :=
  let ⟨D, h1, h2⟩ := h
  ⟨D, ownsMap_same h1 hb, h2⟩
theorem ThMap.obj {w : World} {b : Nat} {ns : List ByteArray} {bs : List Nat} (h : ThMap w b ns bs) : ∃ es c, w.heap[b]? = some (.map es c) := let ⟨_, h1, _⟩ := h; ownsMap_obj h1
theorem ThMap.g {S : Nat → Prop} {w w' : World} {b : Nat} {ns : List ByteArray} {bs : List Nat} (h : ThMap w b ns bs) (q : G S w w') (hb : ¬ S b) : ThMap w' b ns bs := by
  obtain ⟨es, c, ho⟩ := h.obj
  exact h.same ((q.obj hb ho).trans ho.symm)
theorem ThMap.new (w : World) : ThMap (w.alloc (.map #[] 0)) w.heap.size [] [] :=
  ⟨_, World.ownsMap_made w _ _ _, Maps.isMap_empty, fun _ => rfl, fun _ => rfl⟩
theorem th_put {D : DataW Unit} {ns : List ByteArray} {bs : List Nat} {n : ByteArray} {b : Nat} (hM : Maps.IsMap D) (hl : ns.length = bs.length) (hA : ∀ s : ByteArray, D.atKey (.string s.data.toList) .nil = thD ns bs s) (hH : ∀ s : ByteArray, Maps.has D (.string s.data.toList) = namedL ns s) (hn : namedL ns n = false) :
    (∀ s : ByteArray, (D.put (.string n.data.toList) (.lit (.int .i64 b))).atKey (.string s.data.toList) .nil = thD (ns ++ [n]) (bs ++ [b]) s) ∧ ∀ s : ByteArray, Maps.has (D.put (.string n.data.toList) (.lit (.int .i64 b))) (.string s.data.toList) = namedL (ns ++ [n]) s := by
  have hk : WideAt.IsKeyLit (.string n.data.toList) := trivial
  refine ⟨fun s => ?_, fun s => ?_⟩
  · rw [thD_snoc ns bs n b s hl]
    cases hs : n.toList == s.toList
    · rw [atKey_put_other (lit_ne hs), hA]
      cases hx : namedL ns s
      · rw [thD_no ns bs s hx]; simp
      · simp
    · have e : n.data.toList = s.data.toList := by
        rw [← Go.Lib.toList_data, ← Go.Lib.toList_data]
        simpa using hs
      have hx : namedL ns s = false := by
        unfold namedL at hn ⊢
        rw [show s.toList = n.toList by simpa using (by simpa using hs : n.toList = s.toList).symm]
        exact hn
      rw [← e, atKey_put_same hM hk, hx]
      simp
  · rw [namedL_snoc]
    cases hx : n.toList == s.toList
    · rw [has_put_other (lit_ne hx), hH]
      simp
    · have e : n.data.toList = s.data.toList := by
        rw [← Go.Lib.toList_data, ← Go.Lib.toList_data]
        simpa using hx
      rw [← e, has_put_same hM hk]
      simp
/-- A thing: its place, its shape, its block, its table, if that was asked for. -/
structure Th where
  i : Nat
  l : List Sec
  b : Nat
  p : Option Value
def Th.cells (x : Th) (v : Value) : Array Value := match x.p with
  | none => #[.int .i64 x.i, v, .int .u32 0, .int .i32 0, .int .u32 0, .pointer none]
  | some p => #[.int .i64 x.i, v, .int .u32 1, .int .i32 0, .int .u32 0, p]
structure ThAt (lo hi : Nat) (E : List Ent) (w : World) (x : Th) : Prop where
  obj : ∃ o m c, w.heap[x.b]? = some (.cells (x.cells (.slice o m c)) 125 (0, 0)) ∧ Held (fun w => IsSecs w (.slice o m c) x.l) lo hi w
  right : rightS x.l = true
  made : ∀ p, x.p = some p → ∃ e ∈ E, e.p = p ∧ e.l = x.l
theorem ThAt.g {S : Nat → Prop} {lo hi : Nat} {E : List Ent} {w w' : World} {x : Th} (h : ThAt lo hi E w x) (q : G S w w') (hS : ∀ i, S i → (i < lo ∨ hi ≤ i) ∧ i ≠ x.b) : ThAt lo hi E w' x := by
  obtain ⟨o, m, c, h1, h2⟩ := h.obj
  exact ⟨⟨o, m, c, q.obj (fun hs => (hS _ hs).2 rfl) h1, q.held h2 (fun i h3 h4 hs => by have := (hS i hs).1; omega)⟩, h.right, h.made⟩
theorem ThAt.moreE {lo hi : Nat} {E E' : List Ent} {w : World} {x : Th} (h : ThAt lo hi E w x) (hE : ∀ e ∈ E, e ∈ E') : ThAt lo hi E' w x :=
  ⟨h.obj, h.right, fun p hp => let ⟨e, h1, h2⟩ := h.made p hp; ⟨e, hE e h1, h2⟩⟩
/-- What of a board never turns. -/
structure Bp where
  b : Nat
  lo : Nat
  hi : Nat
  c : Nat
  bm : Nat
  base : Nat
  mw : Nat
  mt : Nat
  top : Nat
  wv : Value
  tv : Value
  fv : Value
  d : Dk
  bw : List Nat
  bt : List Nat
/-- The blocks of a board that turn. -/
def Bp.S (P : Bp) (i : Nat) : Prop := i = P.c ∨ i = P.bm ∨ i ∈ P.bw ++ P.bt
/-- A board in memory. -/
structure BoardM (P : Bp) (w : World) (n : Nat) (E : List Ent) (X : List Th) : Prop where
  obj : w.heap[P.b]? = some (.cells #[P.wv, P.tv, P.fv, .pointer (some ⟨P.c, 0, none⟩), .map (some P.mw), .map (some P.mt)] 110 (0, 0))
  dk : Held (fun w => IsDk w P.wv P.tv P.fv P.d) P.lo P.hi w
  right : rightD P.d = true
  cache : CacheC CTab w P.c P.bm P.base n E
  wm : ThMap w P.mw (P.d.ws.map (·.n)) P.bw
  tm : ThMap w P.mt (P.d.ts.map (·.n)) P.bt
  lohi : P.lo ≤ P.hi
  hibm : P.hi ≤ P.bm
  bamw : P.base ≤ P.mw
  mwmt : P.mw < P.mt
  mtb : P.mt < P.b
  btop : P.b < P.top
  top : P.top ≤ w.heap.size
  bX : X.map (·.b) = P.bw ++ P.bt
  blt : ∀ x ∈ X, P.b < x.b ∧ x.b < P.top
  bap : X.Pairwise (fun x y => x.b ≠ y.b)
  ents : ∀ e ∈ E, P.top ≤ e.b
  things : ∀ x ∈ X, ThAt P.lo P.hi E w x
  xw : ∀ (i : Nat) r, P.d.ws[i]? = some r → ∃ x, X[i]? = some x ∧ x.i = i ∧ x.l = r.l
  xt : ∀ (i : Nat) r, P.d.ts[i]? = some r → ∃ x, X[P.d.ws.length + i]? = some x ∧ x.i = i ∧ x.l = r.l
  wl : P.bw.length = P.d.ws.length
  tl : P.bt.length = P.d.ts.length
  cnt : n = (X.filter (fun x => x.p.isSome)).length
  few : E.length ≤ n
section
variable {P : Bp} {w w' : World} {n : Nat} {E : List Ent} {X : List Th}
theorem right_few {d : Dk} (h : rightD d = true) : d.ws.length ≤ 8 ∧ d.ts.length ≤ 4 := by
  unfold rightD at h
  simp only [Bool.and_eq_true, decide_eq_true_eq] at h
  exact ⟨h.1.1.1.1, h.1.1.1.2⟩
theorem BoardM.inS (h : BoardM P w n E X) : ∀ i, P.S i → i = P.c ∨ i = P.bm ∨ ∃ x ∈ X, x.b = i := fun i hi => by
  rcases hi with h1 | h1 | h1
  · exact .inl h1
  · exact .inr (.inl h1)
  · rw [← h.bX] at h1
    obtain ⟨x, hx, e⟩ := List.mem_map.1 h1
    exact .inr (.inr ⟨x, hx, e⟩)
theorem BoardM.sLow (h : BoardM P w n E X) : ∀ i, P.S i → P.hi ≤ i ∧ i < P.top := fun i hi => by
  have h1 := h.cache.lt
  have h2 := h.cache.lb
  have h3 := h.hibm
  have h4 := h.bamw
  have h5 := h.mwmt
  have h6 := h.mtb
  have h7 := h.btop
  rcases h.inS i hi with rfl | rfl | ⟨x, hx, rfl⟩
  · omega
  · omega
  · have := h.blt x hx; omega
theorem BoardM.keepG {S : Nat → Prop} (h : BoardM P w n E X) (q : G S w w') (hS : ∀ i, S i → i < P.lo) : BoardM P w' n E X := by
  have h1 := h.cache.lt
  have h2 := h.cache.lb
  have h3 := h.hibm
  have h4 := h.bamw
  have h5 := h.mwmt
  have h6 := h.mtb
  have h7 := h.btop
  have h8 := h.lohi
  have no : ∀ i, P.lo ≤ i → ¬ S i := fun i hi hs => by have := hS i hs; omega
  exact ⟨q.obj (no _ (by omega)) h.obj, q.held h.dk (fun i h1 _ => no i h1), h.right, CacheM.g h.cache q (fun i hi => by have := hS i hi; omega),
    h.wm.g q (no _ (by omega)), h.tm.g q (no _ (by omega)), h.lohi, h.hibm, h.bamw, h.mwmt, h.mtb, h.btop, Nat.le_trans h.top q.size, h.bX, h.blt, h.bap, h.ents,
    fun x hx => (h.things x hx).g q (fun i hi => by have := hS i hi; have := h.blt x hx; omega), h.xw, h.xt, h.wl, h.tl, h.cnt, h.few⟩
theorem BoardM.keepB (h : BoardM P w n E X) (q : B w w') : BoardM P w' n E X := h.keepG (q.g (fun _ => False)) (fun _ h => h.elim)
theorem filter_set : ∀ (X : List Th) (k : Nat) (x y : Th), X[k]? = some x → x.p.isSome = false → y.p.isSome = true → ((X.set k y).filter (fun x => x.p.isSome)).length = (X.filter (fun x => x.p.isSome)).length + 1
  | [], _, _, _, h, _, _ => by simp at h
  | z :: X, 0, x, y, h, hx, hy => by
    obtain rfl : z = x := by simpa using h
    rw [List.set_cons_zero, List.filter_cons, List.filter_cons]
    simp [hx, hy]
  | z :: X, k + 1, x, y, h, hx, hy => by
    have ih := filter_set X k x y (by simpa using h) hx hy
    rw [List.set_cons_succ, List.filter_cons, List.filter_cons]
    split
    · simp [ih]
    · exact ih
theorem map_b_set : ∀ (X : List Th) (k : Nat) (x y : Th), X[k]? = some x → y.b = x.b → (X.set k y).map (·.b) = X.map (·.b)
  | [], _, _, _, h, _ => by simp at h
  | z :: X, 0, x, y, h, hy => by
    obtain rfl : z = x := by simpa using h
    simp [hy]
  | z :: X, k + 1, x, y, h, hy => by
    have ih := map_b_set X k x y (by simpa using h) hy
    simp [ih]
theorem mem_set_or {X : List Th} {k : Nat} {y z : Th} (h : z ∈ X.set k y) : z = y ∨ ∃ j, j ≠ k ∧ X[j]? = some z := by
  obtain ⟨j, hj⟩ := List.getElem?_of_mem h
  by_cases e : k = j
  · subst e
    rw [List.getElem?_set] at hj
    simp only [if_true] at hj
    split at hj
    · exact .inl (Option.some.inj hj).symm
    · cases hj
  · rw [List.getElem?_set_ne e] at hj
    exact .inr ⟨j, fun e' => e e'.symm, hj⟩
theorem pair_ne {X : List Th} (h : X.Pairwise (fun x y => x.b ≠ y.b)) : ∀ {i j : Nat} {x y : Th}, X[i]? = some x → X[j]? = some y → i ≠ j → x.b ≠ y.b := by
  induction X with
  | nil => intro i j x y hx; simp at hx
  | cons z X ih =>
    rw [List.pairwise_cons] at h
    intro i j x y hx hy hij
    match i, j with
    | 0, 0 => exact absurd rfl hij
    | 0, j + 1 =>
      obtain rfl : z = x := by simpa using hx
      exact h.1 y (List.mem_of_getElem? (by simpa using hy))
    | i + 1, 0 =>
      obtain rfl : z = y := by simpa using hy
      exact fun e => h.1 x (List.mem_of_getElem? (by simpa using hx)) e.symm
    | i + 1, j + 1 => exact ih h.2 (by simpa using hx) (by simpa using hy) (by omega)
/-- A thing's table is made. -/
theorem BoardM.made {k : Nat} {x : Th} {e0 : Ent} {E' : List Ent} {o : Option Addr} {m cp : Nat} (h : BoardM P w n E X) (hx : X[k]? = some x) (hxp : x.p = none) (q : G (fun i => i = P.c ∨ i = P.bm ∨ i = x.b) w w')
    (hob : w'.heap[x.b]? = some (.cells #[.int .i64 x.i, .slice o m cp, .int .u32 1, .int .i32 0, .int .u32 0, e0.p] 125 (0, 0))) (hsec : Held (fun w => IsSecs w (.slice o m cp) x.l) P.lo P.hi w)
    (hC : CacheC CTab w' P.c P.bm P.base (n + 1) E') (he : e0 ∈ E') (hel : e0.l = x.l) (hE : E' = E ∨ (∀ e ∈ E, e.l ≠ x.l) ∧ w.heap.size ≤ e0.b ∧ E' = E ++ [e0]) :
    BoardM P w' (n + 1) E' (X.set k { x with p := some e0.p }) := by
  have h1 := h.cache.lt
  have h2 := h.cache.lb
  have h3 := h.hibm
  have h4 := h.bamw
  have h5 := h.mwmt
  have h6 := h.mtb
  have h7 := h.btop
  have h8 := h.lohi
  have hxm := List.mem_of_getElem? hx
  have hxb := h.blt x hxm
  have hEE : ∀ e ∈ E, e ∈ E' := fun e h9 => by
    rcases hE with rfl | ⟨_, _, rfl⟩
    · exact h9
    · exact List.mem_append_left _ h9
  have no : ∀ i, (i < P.hi ∨ (P.base ≤ i ∧ i ≤ P.b)) → ¬ (i = P.c ∨ i = P.bm ∨ i = x.b) := fun i hi hs => by
    rcases hs with rfl | rfl | rfl <;> omega
  refine ⟨q.obj (no _ (by omega)) h.obj, q.held h.dk (fun i _ h9 => no i (by omega)), h.right, hC, h.wm.g q (no _ (by omega)), h.tm.g q (no _ (by omega)), h.lohi, h.hibm, h.bamw, h.mwmt, h.mtb, h.btop, Nat.le_trans h.top q.size,
    (map_b_set X k x _ hx (by rfl)).trans h.bX, fun z hz => ?_, ?_, fun e he => ?_, fun z hz => ?_, fun i r hr => ?_, fun i r hr => ?_, h.wl, h.tl, ?_, ?_⟩
  · rcases mem_set_or hz with rfl | ⟨j, _, hj⟩
    · exact hxb
    · exact h.blt z (List.mem_of_getElem? hj)
  · have e := (map_b_set X k x { x with p := some e0.p } hx (by rfl))
    have hp := h.bap
    have a1 : (X.map (·.b)).Pairwise (fun a b => a ≠ b) := List.pairwise_map.2 hp
    rw [← e] at a1
    exact List.pairwise_map.1 a1
  · rcases hE with rfl | ⟨_, h9, rfl⟩
    · exact h.ents e he
    · rcases List.mem_append.1 he with he | he
      · exact h.ents e he
      · obtain rfl := List.mem_singleton.1 he
        exact Nat.le_trans h.top h9
  · rcases mem_set_or hz with rfl | ⟨j, hj, hz'⟩
    · exact ⟨⟨o, m, cp, hob, q.held hsec (fun i _ h9 => no i (by omega))⟩, (h.things x hxm).right, fun p hp => ⟨e0, he, Option.some.inj hp, hel⟩⟩
    · have hzm := List.mem_of_getElem? hz'
      refine ((h.things z hzm).g q (fun i hi => ?_)).moreE hEE
      have hzb := h.blt z hzm
      have hne := pair_ne h.bap hz' hx hj
      rcases hi with rfl | rfl | rfl
      · omega
      · omega
      · exact ⟨by omega, fun e => hne e.symm⟩
  · obtain ⟨y, hy, hy1, hy2⟩ := h.xw i r hr
    by_cases e : k = i
    · subst e
      obtain rfl : x = y := Option.some.inj (hx.symm.trans hy)
      have hk : k < X.length := (List.getElem?_eq_some_iff.1 hx).1
      exact ⟨_, List.getElem?_set_self hk, hy1, hy2⟩
    · exact ⟨y, (List.getElem?_set_ne e).trans hy, hy1, hy2⟩
  · obtain ⟨y, hy, hy1, hy2⟩ := h.xt i r hr
    by_cases e : k = P.d.ws.length + i
    · subst e
      obtain rfl : x = y := Option.some.inj (hx.symm.trans hy)
      have hk := (List.getElem?_eq_some_iff.1 hx).1
      exact ⟨_, List.getElem?_set_self hk, hy1, hy2⟩
    · exact ⟨y, (List.getElem?_set_ne e).trans hy, hy1, hy2⟩
  · rw [filter_set X k x _ hx (by rw [hxp]; rfl) rfl, ← h.cnt]
  · have := h.few
    rcases hE with rfl | ⟨_, _, rfl⟩
    · omega
    · simp; omega
end
end Go.Proofs.Ytnmcgleanpdlmaa

namespace Go.Proofs.Ytnmcgleanpdlmaa
open Go.RowKit
set_option linter.unusedVariables false
theorem B.map {a w : World} (h : B a w) (es : Array MapEntry) (k : Nat) : B a (w.alloc (.map es k)) := ⟨h.below.alloc h.below.size _⟩
theorem new_at (T : World → Value → List (Int × Int) → Prop) (w : World) : CacheC T ((w.alloc (.map #[] 0)).alloc (.cells #[.int .i64 0, .int .i64 0, .int .i32 0, .int .u32 0, .map (some w.heap.size)] 157)) (w.heap.size + 1) w.heap.size (w.heap.size + 2) 0 [] := by
  have o := obj_new (w.alloc (.map #[] 0)) (.cells #[.int .i64 0, .int .i64 0, .int .i32 0, .int .u32 0, .map (some w.heap.size)] 157)
  have e : (w.alloc (.map #[] 0)).heap.size = w.heap.size + 1 := by simp
  rw [e] at o
  refine ⟨o, ⟨_, (World.ownsMap_made w Try.prog 9 ptrElem).alloc _, fun l => rfl⟩, by omega, by omega, by simp, fun _ h => (by cases h), List.Pairwise.nil⟩
set_option maxRecDepth 100000 in
set_option maxHeartbeats 1600000 in
theorem cnew_any (T : World → Value → List (Int × Int) → Prop) (w : World) : Calls Try.prog 36 #[] w fun e w' => ∃ c bm base, e = .returned (.pointer (some ⟨c, 0, none⟩)) ∧ CacheC T w' c bm base 0 [] ∧ w.heap.size ≤ bm ∧ w'.heap.size = base ∧ B w w' := by
  have hmm := @run_makeMap Try.prog
  have hC := new_at T w
  have hB : B w ((w.alloc (.map #[] 0)).alloc (.cells #[.int .i64 0, .int .i64 0, .int .i32 0, .int .u32 0, .map (some w.heap.size)] 157)) := ((B.refl w).map _ _).alloc _ _
  have hs : ((w.alloc (.map #[] 0)).alloc (.cells #[.int .i64 0, .int .i64 0, .int .i32 0, .int .u32 0, .map (some w.heap.size)] 157)).heap.size = w.heap.size + 2 := by simp
  have HC := Lib.hid hC
  have HB := Lib.hid hB
  have HS := Lib.hid hs
  clear hC hB hs
  go_enter Try.func36, Try.ntmps36
  go_wp2
  go_ret
  exact ⟨_, _, _, rfl, HC.out, Nat.le_refl _, HS.out, HB.out⟩
end Go.Proofs.Ytnmcgleanpdlmaa

namespace Go.Proofs.Ytnmcgleanpdlmaa
open Go.RowKit
set_option linter.unusedVariables false
set_option maxRecDepth 100000 in
set_option maxHeartbeats 4000000 in
theorem copied_any (wv tv fv : Value) (d : Dk) (w : World) (h : IsDk w wv tv fv d) (hw100 : ∀ r ∈ d.ws, r.l.length ≤ 1000000) (ht100 : ∀ r ∈ d.ts, r.l.length ≤ 1000000) (hw9 : d.ws.length ≤ 1000000) (ht9 : d.ts.length ≤ 1000000) (hf9 : d.fs.length ≤ 1000000) :
    Calls Try.prog 35 #[.agg #[wv, tv, fv]] w fun e w' => ∃ o1 c1 o2 c2 o3 c3 ss tt, e = .returned (.agg #[.slice o1 d.ws.length c1, .slice o2 d.ts.length c2, .slice o3 d.fs.length c3]) ∧ OwnD w' w.heap.size (.slice o1 d.ws.length c1) (.slice o2 d.ts.length c2) (.slice o3 d.fs.length c3) d ss tt ∧ B w w' := by
  obtain ⟨ao, ac, bo, bc, co, cc, rfl, rfl, rfl⟩ := h.forms
  obtain ⟨vsw, hvw1, hvw2, hvw3⟩ := recs_vs h.ws
  obtain ⟨vst, hvt1, hvt2, hvt3⟩ := recs_vs h.ts
  have hwi : ∀ r ∈ d.ws, ∀ s ∈ r.l, s.I := fun r hr => by
    obtain ⟨i, hi, e⟩ := List.getElem_of_mem hr
    have := hvw2 i r _ (by rw [List.getElem?_eq_getElem hi, e]) (List.getElem?_eq_getElem (by omega))
    exact secs_I this
  have hti : ∀ r ∈ d.ts, ∀ s ∈ r.l, s.I := fun r hr => by
    obtain ⟨i, hi, e⟩ := List.getElem_of_mem hr
    have := hvt2 i r _ (by rw [List.getElem?_eq_getElem hi, e]) (List.getElem?_eq_getElem (by omega))
    exact secs_I this
  have hone1 := vs_one hvw1 hvw2
  have hone2 := vs_one hvt1 hvt2
  have hfs := h.fs
  obtain ⟨XW, hXW⟩ : ∃ XW, flatR d.ws vsw = XW := ⟨_, rfl⟩
  obtain ⟨XT, hXT⟩ : ∃ XT, flatR d.ts vst = XT := ⟨_, rfl⟩
  obtain ⟨XF, hXF⟩ : ∃ XF, flatF d.fs = XF := ⟨_, rfl⟩
  have qa : B w ((w.alloc (.cells #[.slice ao d.ws.length ac, .slice bo d.ts.length bc, .slice co d.fs.length cc] 39)).alloc (.cells #[.slice none 0 0, .slice none 0 0, .slice none 0 0] 39)) := ((B.refl w).alloc _ _).alloc _ _
  have oD : ((w.alloc (.cells #[.slice ao d.ws.length ac, .slice bo d.ts.length bc, .slice co d.fs.length cc] 39)).alloc (.cells #[.slice none 0 0, .slice none 0 0, .slice none 0 0] 39)).heap[w.heap.size]? = some (.cells #[.slice ao d.ws.length ac, .slice bo d.ts.length bc, .slice co d.fs.length cc] 39 (0, 0)) := obj_past (obj_new w _) _
  have oR : ((w.alloc (.cells #[.slice ao d.ws.length ac, .slice bo d.ts.length bc, .slice co d.fs.length cc] 39)).alloc (.cells #[.slice none 0 0, .slice none 0 0, .slice none 0 0] 39)).heap[w.heap.size + 1]? = some (.cells #[.slice none 0 0, .slice none 0 0, .slice none 0 0] 39 (0, 0)) := by
    have := obj_new (w.alloc (.cells #[.slice ao d.ws.length ac, .slice bo d.ts.length bc, .slice co d.fs.length cc] 39)) (.cells #[.slice none 0 0, .slice none 0 0, .slice none 0 0] 39)
    simpa using this
  have hsz : ((w.alloc (.cells #[.slice ao d.ws.length ac, .slice bo d.ts.length bc, .slice co d.fs.length cc] 39)).alloc (.cells #[.slice none 0 0, .slice none 0 0, .slice none 0 0] 39)).heap.size = w.heap.size + 2 := by simp
  go_enter Try.func35, Try.ntmps35
  go_wp2_with fail
  generalize ((w.alloc (.cells #[.slice ao d.ws.length ac, .slice bo d.ts.length bc, .slice co d.fs.length cc] 39)).alloc (.cells #[.slice none 0 0, .slice none 0 0, .slice none 0 0] 39)) = U0 at *
  generalize hD : w.heap.size = D at *
  generalize hR : D + 1 = R at *
  obtain ⟨nw, hnw⟩ : ∃ nw, d.ws.length = nw := ⟨_, rfl⟩
  obtain ⟨nt, hnt⟩ : ∃ nt, d.ts.length = nt := ⟨_, rfl⟩
  obtain ⟨nf, hnf⟩ : ∃ nf, d.fs.length = nf := ⟨_, rfl⟩

  rw [hnw, hnt, hnf] at oD
  have cW := fun w' (q : B U0 w') => lware_any (.slice ao d.ws.length ac) d.ws vsw w' (hvw3.keepB (qa.trans q)) hvw1 hone1 hw9
  have cT := fun w' (q : B U0 w') => ltip_any (.slice bo d.ts.length bc) d.ts vst w' (hvt3.keepB (qa.trans q)) hvt1 hone2 ht9
  have cF := fun w' (q : B U0 w') => lfill_any (.slice co d.fs.length cc) d.fs w' (hfs.keepB (qa.trans q)) hf9
  rw [hnw, hXW] at cW
  rw [hnt, hXT] at cT
  rw [hnf, hXF] at cF
  obtain ⟨k, hkk⟩ : ∃ k, U0.heap.size = k := ⟨_, rfl⟩
  have hk : k ≤ U0.heap.size := Nat.le_of_eq hkk.symm
  have hwk : D ≤ k := by omega
  have hRk : R < k := by omega
  have HE := Lib.hid (And.intro hwi (And.intro hti (And.intro hvw1 (And.intro hvt1 (And.intro hvw2 hvt2)))))
  rw [hnw, hnt, hnf]
  have HN := Lib.hid (And.intro hnw (And.intro hnt (And.intro hnf (And.intro hXW (And.intro hXT (And.intro hXF (And.intro hw9 (And.intro ht9 hf9))))))))
  have k0 : U0.cell? ⟨D, 0, none⟩ = some (.slice ao nw ac) := obj_cell (w := U0) oD 0
  have k1 : U0.cell? ⟨D, 1, none⟩ = some (.slice bo nt bc) := obj_cell (w := U0) oD 1
  have k2 : U0.cell? ⟨D, 2, none⟩ = some (.slice co nf cc) := obj_cell (w := U0) oD 2
  replace oR : U0.heap[R]? = some (.cells #[.slice none 0 0, .slice none 0 0, .slice none 0 0] 39 (0, 0)) := oR
  have b0 : B w U0 := qa
  clear hvw3 hvt3 hone1 hone2 hfs h hwi hti hvw1 hvt1 hvw2 hvt2 hw9 ht9 hf9 hnw hnt hnf hXW hXT hXF qa oD hsz
  refine wp_region_noPanic ?_
  refine wp_region_slots [(0, 6), (1, 7), (2, 8), (3, 9), (4, 10), (5, 11), (6, 12), (7, 13), (8, 14), (9, 15), (10, 3)] [(11, 2)] [0, 1, 2, 0, 8, 20, 0, 64, 160, 292, 0, 2047] [0, 1, 2, 0, 8, 16, 0, 64, 128, 292, 0, 1536] [0, 1, 3, 0, 8, 31, 0, 64, 255, 511, 0, 2047] 2047 [(fun v _ => v = .pointer (some ⟨D, 0, none⟩)), (fun v _ => v = .slice ao nw ac), (OwnV k 64 5 nw XW), (fun v _ => v = .pointer (some ⟨D, 1, none⟩)), (fun v _ => v = .slice bo nt bc), (OwnV k 59 5 nt XT), (fun v _ => v = .pointer (some ⟨D, 2, none⟩)), (fun v _ => v = .slice co nf cc), (OwnV k 66 4 nf XF), (OwnA k nw nt nf XW XT XF), (BoxV k)] (by kernel_rfl) (by kernel_rfl) (fun _ _ _ _ h => h) ⟨slot_val _, slot_val _, slot_own _ _ _ _ _, slot_val _, slot_val _, slot_own _ _ _ _ _, slot_val _, slot_val _, slot_own _ _ _ _ _, slot_owna _ _ _ _ _ _ _, slot_box _, trivial⟩ ⟨?_, ?_, ?_, ?_, ?_, ?_, ?_, ?_, ?_, ?_, ?_, trivial⟩ ?_
  · intro f w' hf hB
    clear hf
    refine slot_op rfl (fun _ => rfl) (fun T hT K hK => ?_)
    simp only [putsL, List.set_cons_zero, List.set_cons_succ] at hT
    subst hT
    go_simp
    exact hK.out _ _ rfl (B.refl _)
  · intro f w' hf hB
    have h0 := hf (0, 6) (by simp) (by rfl)
    clear hf
    have e0 : f 0 = _ := h0
    have kk := hB.keep k0
    refine slot_op rfl (fun _ => rfl) (fun T hT K hK => ?_)
    simp only [putsL, List.set_cons_zero, List.set_cons_succ, e0] at hT
    subst hT
    go_simp
    exact hK.out _ _ rfl (B.refl _)
  · intro f w' hf hB
    have h1 := hf (1, 7) (by simp) (by rfl)
    clear hf
    have e1 : f 1 = _ := h1
    refine slot_op rfl (fun _ => rfl) (fun T hT K hK => ?_)
    simp only [putsL, List.set_cons_zero, List.set_cons_succ, e1] at hT
    subst hT
    go_simp
    (with_reducible refine (cW _ hB).mono ?_)
    rintro e w2 ⟨o, c, rfl, hown, q⟩
    exact hK.out _ _ ⟨o, c, rfl, own_low hown (Nat.le_trans hk (hB.below.size))⟩ q
  · intro f w' hf hB
    clear hf
    refine slot_op rfl (fun _ => rfl) (fun T hT K hK => ?_)
    simp only [putsL, List.set_cons_zero, List.set_cons_succ] at hT
    subst hT
    go_simp
    exact hK.out _ _ rfl (B.refl _)
  · intro f w' hf hB
    have h3 := hf (3, 9) (by simp) (by rfl)
    clear hf
    have e3 : f 3 = _ := h3
    have kk := hB.keep k1
    refine slot_op rfl (fun _ => rfl) (fun T hT K hK => ?_)
    simp only [putsL, List.set_cons_zero, List.set_cons_succ, e3] at hT
    subst hT
    go_simp
    exact hK.out _ _ rfl (B.refl _)
  · intro f w' hf hB
    have h4 := hf (4, 10) (by simp) (by rfl)
    clear hf
    have e4 : f 4 = _ := h4
    refine slot_op rfl (fun _ => rfl) (fun T hT K hK => ?_)
    simp only [putsL, List.set_cons_zero, List.set_cons_succ, e4] at hT
    subst hT
    go_simp
    (with_reducible refine (cT _ hB).mono ?_)
    rintro e w2 ⟨o, c, rfl, hown, q⟩
    exact hK.out _ _ ⟨o, c, rfl, own_low hown (Nat.le_trans hk (hB.below.size))⟩ q
  · intro f w' hf hB
    clear hf
    refine slot_op rfl (fun _ => rfl) (fun T hT K hK => ?_)
    simp only [putsL, List.set_cons_zero, List.set_cons_succ] at hT
    subst hT
    go_simp
    exact hK.out _ _ rfl (B.refl _)
  · intro f w' hf hB
    have h6 := hf (6, 12) (by simp) (by rfl)
    clear hf
    have e6 : f 6 = _ := h6
    have kk := hB.keep k2
    refine slot_op rfl (fun _ => rfl) (fun T hT K hK => ?_)
    simp only [putsL, List.set_cons_zero, List.set_cons_succ, e6] at hT
    subst hT
    go_simp
    exact hK.out _ _ rfl (B.refl _)
  · intro f w' hf hB
    have h7 := hf (7, 13) (by simp) (by rfl)
    clear hf
    have e7 : f 7 = _ := h7
    refine slot_op rfl (fun _ => rfl) (fun T hT K hK => ?_)
    simp only [putsL, List.set_cons_zero, List.set_cons_succ, e7] at hT
    subst hT
    go_simp
    (with_reducible refine (cF _ hB).mono ?_)
    rintro e w2 ⟨o, c, rfl, hown, q⟩
    exact hK.out _ _ ⟨o, c, rfl, own_low hown (Nat.le_trans hk (hB.below.size))⟩ q
  · intro f w' hf hB
    have h2 := hf (2, 8) (by simp) (by rfl)
    have h5 := hf (5, 11) (by simp) (by rfl)
    have h8 := hf (8, 14) (by simp) (by rfl)
    clear hf
    obtain ⟨o1, c1, e2, r1⟩ := h2
    obtain ⟨o2, c2, e5, r2⟩ := h5
    obtain ⟨o3, c3, e8, r3⟩ := h8
    refine slot_op rfl (fun _ => rfl) (fun T hT K hK => ?_)
    simp only [putsL, List.set_cons_zero, List.set_cons_succ, e2, e5, e8] at hT
    subst hT
    go_simp
    exact hK.out _ _ ⟨o1, c1, o2, c2, o3, c3, rfl, r1, r2, r3⟩ (B.refl _)
  · intro f w' hf hB
    clear hf
    refine slot_op rfl (fun _ => rfl) (fun T hT K hK => ?_)
    simp only [putsL, List.set_cons_zero, List.set_cons_succ] at hT
    subst hT
    go_simp
    exact hK.out _ _ ⟨_, rfl, obj_new _ _, Nat.le_trans hk hB.below.size⟩ ((B.refl _).alloc _ _)
  · intro f w' hf hB T hT
    have h9 := hf (9, 15) (by simp)
    have h10 := hf (10, 3) (by simp)
    obtain ⟨o1, c1, o2, c2, o3, c3, e9, r1, r2, r3⟩ := h9
    obtain ⟨C, e10, oC, hkC⟩ := h10
    clear hf
    simp only [putsL, List.set_cons_zero, List.set_cons_succ, e9, e10] at hT
    subst hT
    have y0 := obj_cell oC 0
    have y1 := obj_cell oC 1
    have y2 := obj_cell oC 2
    have z0 := obj_free oC 0
    have z1 := obj_free oC 1
    have z2 := obj_free oC 2
    refine wpSeq_call rfl (by kernel_rfl) (fun K hK => ?_)
    go_simp
    refine hK.out _ _ trivial (fun _ => ?_)
    clear hK
    refine wpSeq_done ?_
    refine NoPanic.normal ?_
    have oC2 := obj_three oC (.slice o1 nw c1) (.slice o2 nt c2) (.slice o3 nf c3)
    have g2 := g_three w' C (.slice o1 nw c1) (.slice o2 nt c2) (.slice o3 nf c3)
    have s1 := own_objG r1 oC (by decide) g2
    have s2 := own_objG r2 oC (by decide) g2
    have s3 := own_objG r3 oC (by decide) g2
    have b2 := g2.b hB (fun i hi => by subst hi; rw [hkk]; exact hkC)
    have oR2 := b2.obj oR
    have HK := hkC
    clear r1 r2 r3 oC g2 y0 y1 y2 z0 z1 z2 hB e9 e10 k0 k1 k2 hkC
    generalize ((w'.setCell ⟨C, 0, none⟩ (.slice o1 nw c1)).setCell ⟨C, 1, none⟩ (.slice o2 nt c2)).setCell ⟨C, 2, none⟩ (.slice o3 nf c3) = W1 at *
    obtain ⟨hwi, hti, hvw1, hvt1, hvw2, hvt2⟩ := HE.out
    obtain ⟨hnw, hnt, hnf, hXW, hXT, hXF, hw9, ht9, hf9⟩ := HN.out
    have bw1 : B w W1 := b0.trans b2
    have hkC : k ≤ C := HK
    have yC0 := obj_cell oC2 0
    rw [← hXW] at s1
    clear HE HN cW cT cF hXW b0 b2 hkk oR HK
    go_wp2_with fail
    go_loopw [19] (fun iv wr => ∃ (i : Nat) (ss : List Value), i ≤ nw ∧ iv = .int .i64 i ∧ LpAt d.ws w wr W1 k C nw (.slice o1 nw c1) 64 i ss) (fun iv _ => nw + 1 - (intOf iv).toNat)
    case atStart => exact ⟨0, vsw, Nat.zero_le _, rfl, LpAt.start hvw1 hvw2 bw1 s1⟩
    case round =>
      obtain ⟨i, ss, hi, rfl, hLp⟩ := hrel
      obtain ⟨wl, rfl⟩ : ∃ wl : World, wl = wr := ⟨_, rfl⟩
      have oCl := hLp.g.obj (fun h => h.2 rfl) oC2
      have yC := obj_cell oCl 0
      by_cases hl : i < nw
      · have hlB : decide ((i : Int) < (nw : Int)) = true := decide_eq_true (by omega)
        have hlN : decide (i < nw) = true := decide_eq_true hl
        have hlI : (i : Int) < (nw : Int) := by omega
        have hi0 : (0 : Int) ≤ (i : Int) := by omega
        have wk1 : IntKind.i64.wrap ((i : Int) + 1) = (i : Int) + 1 := by rw [IntKind.wrap_i64]; omega
        obtain ⟨r, u, hr, hu, hyc⟩ := hLp.at_ hnw hl
        have hrow := hLp.row
        obtain ⟨g, cp, hsl, hgk, hglt⟩ := hrow.form (by omega)
        simp only [Value.slice.injEq, true_and] at hsl
        obtain ⟨rfl, rfl⟩ := hsl
        have yc : wl.cell? ⟨g, i * 5 + 4, none⟩ = some u := hyc g rfl
        have hsu : IsSecs wl u r.l := hLp.old_at hr hu
        obtain ⟨uo, uc, rfl⟩ := hsu.formL
        obtain ⟨un, hun⟩ : ∃ un, r.l.length = un := ⟨_, rfl⟩
        have cl := fun w' (q : B wl w') => lsec_any (.slice uo r.l.length uc) r.l w' (hsu.keepB q) (hw100 r (List.mem_of_getElem? hr))
        rw [hun] at cl yc hu
        have qd : B wl wl.drew := (B.refl wl).drew
        have hgC : ¬ g = C := fun e => by
          subst e
          exact farF2 oCl hrow (by decide) rfl
        have hgC' : ¬ C = g := fun e => hgC e.symm
        have hkl : k ≤ wl.heap.size := by have := obj_lt oCl; omega
        have HP := Lib.hid hLp
        have HN := Lib.hid (And.intro hun (And.intro hr hu))
        have HI := Lib.hid (And.intro hl hkl)
        clear hLp hyc hsu hun hr hu hrow hgk hglt hl hkl
        go_wp2_with fail
        refine wp_region_noPanic ?_
        refine wp_region_gate (S := fun w' => w'.cell? ⟨C, 0, none⟩ = some (.slice (some ⟨g, 0, none⟩) nw c1) ∧ w'.cell? ⟨g, i * 5 + 4, none⟩ = some (.slice uo un uc) ∧ B wl w') 12 [(0, 3), (1, 0), (2, 3), (3, 3), (4, 0), (5, 3), (6, 3), (7, 3), (8, 0), (9, 2), (10, 3), (11, 3), (12, 4)] [0, 1, 0, 0, 8, 0, 48, 64, 128, 256, 1023, 2047, 3071] [0, 1, 0, 0, 8, 0, 48, 64, 128, 256, 6, 1024, 2560] [0, 7170, 0, 0, 8144, 0, 0, 0, 7936, 0, 0, 0, 0] (by kernel_rfl) (by kernel_rfl) (fun _ _ _ _ _ h => h) ?_ (fun hH => ?_)
        · exact ⟨qd.keep yC, qd.keep yc, qd⟩
        refine wpSeqG_free (d := 22) (v := ?_) rfl rfl (by kernel_rfl) (fun w => ?_) ?_
        rotate_left
        · go_simp <;> with_reducible rfl
        dsimp only [List.set_cons_zero, List.set_cons_succ]
        refine wpSeqG_take (d := 23) (v := ?_) rfl rfl (by kernel_rfl) (fun w hS => ?_) ?_
        rotate_left
        · go_simp <;> with_reducible rfl
        dsimp only [List.set_cons_zero, List.set_cons_succ]
        refine wpSeqG_free (d := 24) (v := ?_) rfl rfl (by kernel_rfl) (fun w => ?_) ?_
        rotate_left
        · go_simp <;> with_reducible rfl
        dsimp only [List.set_cons_zero, List.set_cons_succ]
        refine wpSeqG_free (d := 25) (v := ?_) rfl rfl (by kernel_rfl) (fun w => ?_) ?_
        rotate_left
        · go_simp <;> with_reducible rfl
        dsimp only [List.set_cons_zero, List.set_cons_succ]
        refine wpSeqG_take (d := 26) (v := ?_) rfl rfl (by kernel_rfl) (fun w hS => ?_) ?_
        rotate_left
        · go_simp <;> with_reducible rfl
        dsimp only [List.set_cons_zero, List.set_cons_succ]
        refine wpSeqG_free (d := 27) (v := ?_) rfl rfl (by kernel_rfl) (fun w => ?_) ?_
        rotate_left
        · go_simp <;> with_reducible rfl
        dsimp only [List.set_cons_zero, List.set_cons_succ]
        refine wpSeqG_free (d := 28) (v := ?_) rfl rfl (by kernel_rfl) (fun w => ?_) ?_
        rotate_left
        · go_simp <;> with_reducible rfl
        dsimp only [List.set_cons_zero, List.set_cons_succ]
        refine wpSeqG_free (d := 29) (v := ?_) rfl rfl (by kernel_rfl) (fun w => ?_) ?_
        rotate_left
        · go_simp <;> with_reducible rfl
        dsimp only [List.set_cons_zero, List.set_cons_succ]
        refine wpSeqG_take (d := 30) (v := ?_) rfl rfl (by kernel_rfl) (fun w hS => ?_) ?_
        rotate_left
        · go_simp <;> with_reducible rfl
        dsimp only [List.set_cons_zero, List.set_cons_succ]
        refine wpSeqG_call rfl (by kernel_rfl) (fun K hK => ?_)
        go_simp
        (with_reducible refine (cl _ hH.2.2).mono ?_)
        rintro e w2 ⟨o9, c9, rfl, hown9, hq⟩
        refine hK.out _ _ ?_ (fun hH => ?_)
        · exact ⟨hq.keep hH.1, hq.keep hH.2.1, hH.2.2.trans hq⟩
        clear hK
        refine wpSeqG_free (d := 32) (v := ?_) rfl rfl (by kernel_rfl) (fun w => ?_) ?_
        rotate_left
        · go_simp <;> with_reducible rfl
        dsimp only [List.set_cons_zero, List.set_cons_succ]
        refine wpSeqG_free (d := 33) (v := ?_) rfl rfl (by kernel_rfl) (fun w => ?_) ?_
        rotate_left
        · go_simp <;> with_reducible rfl
        dsimp only [List.set_cons_zero, List.set_cons_succ]
        refine wpSeqG_gate rfl (by kernel_rfl) (fun K hK => ?_)
        have yy := hH.2.1
        have zz := (own_keepBx HP.out.row hH.2.2).frozenAt (i * 5 + 4)
        go_simp
        refine hK.out _ _ ?_
        clear hK
        refine wpSeqG_done ?_
        refine NoPanic.normal ?_
        all_goals
          obtain ⟨hun, hr, hu⟩ := HN.out
          have hG := HP.out.next hnw HI.out.2 hr hu HI.out.1 hH.2.2 hown9 hun (by decide) hgC (by rw [hD]; exact hwk)
          have HZ := Lib.hid (And.intro hG HI.out.1)
          clear hG HP HN HI hH hown9 hun hr hu
          generalize (w2.setCell ⟨g, i * 5 + 4, none⟩ (.slice o9 un c9)) = w9 at *
          go_wp2
          go_roundw
          case rel => exact ⟨i + 1, _, by have := HZ.out.2; omega, by go_num, HZ.out.1⟩
          case measure => have := HZ.out.2; simp [intOf]; omega
      · have hlB : decide ((i : Int) < (nw : Int)) = false := decide_eq_false (by omega)
        have hlN : decide (i < nw) = false := decide_eq_false hl
        obtain rfl : nw = i := by omega
        have oR3 := hLp.g.obj (fun h => by have := h.1; omega) oR2
        have HT := Lib.hid (And.intro hLp.row (And.intro hLp.len (And.intro (fun (j : Nat) (r : Rec) (u : Value) (h1 : d.ws[j]? = some r) (h2 : ss[j]? = some u) => hLp.new j r u (by have := (List.getElem?_eq_some_iff.1 h1).1; omega) h1 h2) (hLp.own (by decide) s3))))
        replace s2 : wl.ownsRow k 59 5 (.slice o2 nt c2) nt (flatR d.ts vst) := hLp.own (by decide) (by rw [hXT]; exact s2)
        have bw2 := hLp.bw
        have oC3 := oCl
        have yC1 := obj_cell oCl 1
        clear hLp s3 s1 bw1 oC2 oR2 oCl yC yC0 hvw1 hvw2
        obtain ⟨W2, rfl⟩ : ∃ W2 : World, W2 = wl := ⟨_, rfl⟩
        obtain ⟨ssw, rfl⟩ : ∃ s, s = ss := ⟨_, rfl⟩
        go_wp2_with fail
        clear hlB hlN hl hi
        go_loopw [38] (fun iv wr => ∃ (i : Nat) (ss : List Value), i ≤ nt ∧ iv = .int .i64 i ∧ LpAt d.ts w wr W2 k C nt (.slice o2 nt c2) 59 i ss) (fun iv _ => nt + 1 - (intOf iv).toNat)
        case atStart => exact ⟨0, vst, Nat.zero_le _, rfl, LpAt.start hvt1 hvt2 bw2 s2⟩
        case round =>
          obtain ⟨i, ss, hi, rfl, hLp⟩ := hrel
          obtain ⟨wl, rfl⟩ : ∃ wl : World, wl = wr := ⟨_, rfl⟩
          have oCl := hLp.g.obj (fun h => h.2 rfl) oC3
          have yC := obj_cell oCl 1
          by_cases hl : i < nt
          · have hlB : decide ((i : Int) < (nt : Int)) = true := decide_eq_true (by omega)
            have hlN : decide (i < nt) = true := decide_eq_true hl
            have hlI : (i : Int) < (nt : Int) := by omega
            have hi0 : (0 : Int) ≤ (i : Int) := by omega
            have wk1 : IntKind.i64.wrap ((i : Int) + 1) = (i : Int) + 1 := by rw [IntKind.wrap_i64]; omega
            obtain ⟨r, u, hr, hu, hyc⟩ := hLp.at_ hnt hl
            have hrow := hLp.row
            obtain ⟨g, cp, hsl, hgk, hglt⟩ := hrow.form (by omega)
            simp only [Value.slice.injEq, true_and] at hsl
            obtain ⟨rfl, rfl⟩ := hsl
            have yc : wl.cell? ⟨g, i * 5 + 4, none⟩ = some u := hyc g rfl
            have hsu : IsSecs wl u r.l := hLp.old_at hr hu
            obtain ⟨uo, uc, rfl⟩ := hsu.formL
            obtain ⟨un, hun⟩ : ∃ un, r.l.length = un := ⟨_, rfl⟩
            have cl := fun w' (q : B wl w') => lsec_any (.slice uo r.l.length uc) r.l w' (hsu.keepB q) (ht100 r (List.mem_of_getElem? hr))
            rw [hun] at cl yc hu
            have qd : B wl wl.drew := (B.refl wl).drew
            have hgC : ¬ g = C := fun e => by
              subst e
              exact farF2 oCl hrow (by decide) rfl
            have hgC' : ¬ C = g := fun e => hgC e.symm
            have hkl : k ≤ wl.heap.size := by have := obj_lt oCl; omega
            have HP := Lib.hid hLp
            have HN := Lib.hid (And.intro hun (And.intro hr hu))
            have HI := Lib.hid (And.intro hl hkl)
            clear hLp hyc hsu hun hr hu hrow hgk hglt hl hkl
            go_wp2_with fail
            refine wp_region_noPanic ?_
            refine wp_region_gate (S := fun w' => w'.cell? ⟨C, 1, none⟩ = some (.slice (some ⟨g, 0, none⟩) nt c2) ∧ w'.cell? ⟨g, i * 5 + 4, none⟩ = some (.slice uo un uc) ∧ B wl w') 12 [(0, 3), (1, 0), (2, 3), (3, 3), (4, 0), (5, 3), (6, 3), (7, 3), (8, 0), (9, 2), (10, 3), (11, 3), (12, 4)] [0, 1, 0, 0, 8, 0, 48, 64, 128, 256, 1023, 2047, 3071] [0, 1, 0, 0, 8, 0, 48, 64, 128, 256, 6, 1024, 2560] [0, 7170, 0, 0, 8144, 0, 0, 0, 7936, 0, 0, 0, 0] (by kernel_rfl) (by kernel_rfl) (fun _ _ _ _ _ h => h) ?_ (fun hH => ?_)
            · exact ⟨qd.keep yC, qd.keep yc, qd⟩
            refine wpSeqG_free (d := 41) (v := ?_) rfl rfl (by kernel_rfl) (fun w => ?_) ?_
            rotate_left
            · go_simp <;> with_reducible rfl
            dsimp only [List.set_cons_zero, List.set_cons_succ]
            refine wpSeqG_take (d := 42) (v := ?_) rfl rfl (by kernel_rfl) (fun w hS => ?_) ?_
            rotate_left
            · go_simp <;> with_reducible rfl
            dsimp only [List.set_cons_zero, List.set_cons_succ]
            refine wpSeqG_free (d := 43) (v := ?_) rfl rfl (by kernel_rfl) (fun w => ?_) ?_
            rotate_left
            · go_simp <;> with_reducible rfl
            dsimp only [List.set_cons_zero, List.set_cons_succ]
            refine wpSeqG_free (d := 44) (v := ?_) rfl rfl (by kernel_rfl) (fun w => ?_) ?_
            rotate_left
            · go_simp <;> with_reducible rfl
            dsimp only [List.set_cons_zero, List.set_cons_succ]
            refine wpSeqG_take (d := 45) (v := ?_) rfl rfl (by kernel_rfl) (fun w hS => ?_) ?_
            rotate_left
            · go_simp <;> with_reducible rfl
            dsimp only [List.set_cons_zero, List.set_cons_succ]
            refine wpSeqG_free (d := 46) (v := ?_) rfl rfl (by kernel_rfl) (fun w => ?_) ?_
            rotate_left
            · go_simp <;> with_reducible rfl
            dsimp only [List.set_cons_zero, List.set_cons_succ]
            refine wpSeqG_free (d := 47) (v := ?_) rfl rfl (by kernel_rfl) (fun w => ?_) ?_
            rotate_left
            · go_simp <;> with_reducible rfl
            dsimp only [List.set_cons_zero, List.set_cons_succ]
            refine wpSeqG_free (d := 48) (v := ?_) rfl rfl (by kernel_rfl) (fun w => ?_) ?_
            rotate_left
            · go_simp <;> with_reducible rfl
            dsimp only [List.set_cons_zero, List.set_cons_succ]
            refine wpSeqG_take (d := 49) (v := ?_) rfl rfl (by kernel_rfl) (fun w hS => ?_) ?_
            rotate_left
            · go_simp <;> with_reducible rfl
            dsimp only [List.set_cons_zero, List.set_cons_succ]
            refine wpSeqG_call rfl (by kernel_rfl) (fun K hK => ?_)
            go_simp
            (with_reducible refine (cl _ hH.2.2).mono ?_)
            rintro e w2 ⟨o9, c9, rfl, hown9, hq⟩
            refine hK.out _ _ ?_ (fun hH => ?_)
            · exact ⟨hq.keep hH.1, hq.keep hH.2.1, hH.2.2.trans hq⟩
            clear hK
            refine wpSeqG_free (d := 51) (v := ?_) rfl rfl (by kernel_rfl) (fun w => ?_) ?_
            rotate_left
            · go_simp <;> with_reducible rfl
            dsimp only [List.set_cons_zero, List.set_cons_succ]
            refine wpSeqG_free (d := 52) (v := ?_) rfl rfl (by kernel_rfl) (fun w => ?_) ?_
            rotate_left
            · go_simp <;> with_reducible rfl
            dsimp only [List.set_cons_zero, List.set_cons_succ]
            refine wpSeqG_gate rfl (by kernel_rfl) (fun K hK => ?_)
            have yy := hH.2.1
            have zz := (own_keepBx HP.out.row hH.2.2).frozenAt (i * 5 + 4)
            go_simp
            refine hK.out _ _ ?_
            clear hK
            refine wpSeqG_done ?_
            refine NoPanic.normal ?_
            all_goals
              obtain ⟨hun, hr, hu⟩ := HN.out
              have hG := HP.out.next hnt HI.out.2 hr hu HI.out.1 hH.2.2 hown9 hun (by decide) hgC (by rw [hD]; exact hwk)
              have HZ := Lib.hid (And.intro hG HI.out.1)
              clear hG HP HN HI hH hown9 hun hr hu
              generalize (w2.setCell ⟨g, i * 5 + 4, none⟩ (.slice o9 un c9)) = w9 at *
              go_wp2
              go_roundw
              case rel => exact ⟨i + 1, _, by have := HZ.out.2; omega, by go_num, HZ.out.1⟩
              case measure => have := HZ.out.2; simp [intOf]; omega
          · have hlB : decide ((i : Int) < (nt : Int)) = false := decide_eq_false (by omega)
            have hlN : decide (i < nt) = false := decide_eq_false hl
            obtain rfl : nt = i := by omega
            have oR4 := hLp.g.obj (fun h => by have := h.1; omega) oR3
            obtain ⟨t1, tl1, tn, t3⟩ := HT.out
            have hCR : ¬ C = R := by omega
            have hRC : ¬ R = C := by omega
            have gR := g_three wl R (.slice o1 nw c1) (.slice o2 nt c2) (.slice o3 nf c3)
            have oE := obj_three oR4 (.slice o1 nw c1) (.slice o2 nt c2) (.slice o3 nf c3)
            have hOwn : OwnD (((wl.setCell ⟨R, 0, none⟩ (.slice o1 nw c1)).setCell ⟨R, 1, none⟩ (.slice o2 nt c2)).setCell ⟨R, 2, none⟩ (.slice o3 nf c3)) k (.slice o1 nw c1) (.slice o2 nt c2) (.slice o3 nf c3) d ssw ss :=
              ⟨by rw [hnw]; exact own_objG (hLp.own (by decide) t1) oR4 (by decide) gR, by rw [hnt]; exact own_objG hLp.row oR4 (by decide) gR, by rw [hnf, hXF]; exact own_objG (hLp.own (by decide) t3) oR4 (by decide) gR, tl1, hLp.len,
                fun i r v h1 h2 => own_objG (hLp.own (by decide) (tn i r v h1 h2)) oR4 (by decide) gR, fun i r v h1 h2 => own_objG (hLp.new i r v (by have := (List.getElem?_eq_some_iff.1 h1).1; omega) h1 h2) oR4 (by decide) gR, hwi, hti⟩
            have hqF := b_three (b := R) hLp.bw (by rw [hD]; omega) (.slice o1 nw c1) (.slice o2 nt c2) (.slice o3 nf c3)
            have HZ := Lib.hid (And.intro oE (And.intro hqF hOwn))
            have HM := Lib.hid (And.intro hnw (And.intro hnt hnf))
            have y0 := obj_cell oCl 0
            have y1 := obj_cell oCl 1
            have y2 := obj_cell oCl 2
            have e0 := obj_free oR4 0
            have e1 := obj_free oR4 1
            have e2 := obj_free oR4 2
            have r0 := obj_cell oR4 0
            have r1 := obj_cell oR4 1
            have r2 := obj_cell oR4 2
            clear oE hqF hOwn hLp HT t1 tl1 tn t3 gR oR4 oCl oC3 oR3 hwi hti hvt1 hvt2 hnt hnf hXT hXF s2 hnw
            go_wp2
            obtain ⟨oE, hqF, hOwn⟩ := HZ.out
            have c0' := obj_cell oE 0
            have c1' := obj_cell oE 1
            have c2' := obj_cell oE 2
            refine bodyPost_ret (v := .agg #[.slice o1 nw c1, .slice o2 nt c2, .slice o3 nf c3]) (by simp [results, Try.results35, go_sem, c0', c1', c2']) rfl ⟨o1, c1, o2, c2, o3, c3, ssw, ss, by rw [HM.out.1, HM.out.2.1, HM.out.2.2], ?_, hqF⟩
            rw [HM.out.1, HM.out.2.1, HM.out.2.2]
            have hwk' : w.heap.size ≤ k := by rw [hD]; exact hwk
            exact ⟨own_low hOwn.ws hwk', own_low hOwn.ts hwk', own_low hOwn.fs hwk', hOwn.sl, hOwn.tl, fun i r v h1 h2 => own_low (hOwn.sh i r v h1 h2) hwk', fun i r v h1 h2 => own_low (hOwn.th i r v h1 h2) hwk', hOwn.wi, hOwn.ti⟩
end Go.Proofs.Ytnmcgleanpdlmaa

namespace Go.Proofs.Ytnmcgleanpdlmaa
open Go.RowKit Go.Maps Go.WideMaps
set_option linter.unusedVariables false
theorem laid9 : laidOutB Try.prog = true := by kernel_rfl
theorem wideWell : (match Try.prog.underlying 50 with | some (.array _ _) | some (.struct _) => true | _ => false) = true := by rw [Try.underlying50]
set_option maxRecDepth 100000 in
theorem wellKeyed : Keyed Try.prog 50 := Keyed.of_law (deep_law_laid laid9 (m := 3) (by omega) (of_decide_eq_true (by kernel_rfl)) (by kernel_rfl) wideWell)
def wkey (n : ByteArray) (r c : Int) : Lit := .string (keyBytes [.string n.data.toList, .int .i64 r, .int .i64 c])
theorem wf_i64 {r : Int} (h : I64 r) : (Lit.int .i64 r).wf = true := by
  unfold I64 at h
  simp [Lit.wf, IntKind.min, IntKind.max, IntKind.signed, IntKind.bits]
  omega
theorem keyT : Try.prog.keyType 50 = true := by kernel_rfl
theorem cells3 : Try.prog.cellsOf 50 = 3 := by kernel_rfl
theorem cellsS : Try.prog.cellsOf 9 = 1 := by kernel_rfl
theorem cellsI1 : Try.prog.cellsOf 3 = 1 := by kernel_rfl
theorem key_well (n : ByteArray) (r c : Int) (hn : n.size ≤ maxLen) (hr : I64 r) (hc : I64 c) : keyOf Try.prog 50 (.agg #[.string n, .int .i64 r, .int .i64 c]) = some (wkey n r c) := by
  have wr := wf_i64 hr
  have wc := wf_i64 hc
  have e : Try.prog.keyLits (Try.prog.types.size + 1) 50 [.string n, .int .i64 r, .int .i64 c] = some [.string n.data.toList, .int .i64 r, .int .i64 c] := by
    obtain ⟨m, hm⟩ : ∃ m, Try.prog.types.size = m + 1 := ⟨Try.prog.types.size - 1, by have : 0 < Try.prog.types.size := of_decide_eq_true (by kernel_rfl); omega⟩
    rw [hm]
    simp [Program.keyLits, Try.underlying50, Try.underlying9, Try.underlying3, cells3, cellsS, cellsI1, hn, wr, wc]
  unfold keyOf
  rw [Try.underlying50]
  simp only [keyT]
  simp [Value.formed, Try.underlying50, cells3, Value.cells, wkey]
  exact ⟨_, by simpa using e, rfl⟩
theorem wkey_inj {n n' : ByteArray} {r c r' c' : Int} (hn : n.size ≤ maxLen) (hr : I64 r) (hc : I64 c) (hn' : n'.size ≤ maxLen) (hr' : I64 r') (hc' : I64 c') (h : wkey n r c = wkey n' r' c') : n = n' ∧ r = r' ∧ c = c' := by
  have := wellKeyed.inj (key_well n r c hn hr hc) (h ▸ key_well n' r' c' hn' hr' hc')
  simpa using this
end Go.Proofs.Ytnmcgleanpdlmaa
