/-
  Regions that draw their order: one order is walked, its right is reckoned once by masks of bits. No program is named here.
-/
import Derived.WalkKit
import Derived.Deep.RegionHeld3
import Derived.KernelRfl
namespace Go.Proofs.Ytknpabijhmcjhaa
open Go.RowKit

/-- Those that must come before, as bits. -/
def amOf (md : Region.Mode) (o : Oper) : Nat := o.after.toList.foldr (fun e m => if Region.binds md e then m ||| 2 ^ e.on else m) 0
/-- Those that touch the same slots and don't wait for it, as bits. -/
def cfOf (md : Region.Mode) (ops : Array Oper) (oi : Oper) (i : Nat) : List Oper → Nat → Nat
  | [], _ => 0
  | oj :: l, j => (if j == i || (amOf md oj).testBit i || oi.apart ops oj then 0 else 2 ^ j) ||| cfOf md ops oi i l (j + 1)
def cfAll (md : Region.Mode) (ops : Array Oper) : List Oper → Nat → List Nat
  | [], _ => []
  | oi :: l, i => cfOf md ops oi i ops.toList 0 :: cfAll md ops l (i + 1)

/-- May they come up so? 0: taken; 1: passed over; 2: the only one that may come up. -/
def seqOk (n : Nat) (am cf : List Nat) : List (Nat × Nat) → Nat → Bool
  | [], done => (List.range n).all done.testBit
  | (i, k) :: l, done => decide (i < n) && !done.testBit i && (am.getD i 0 &&& done == am.getD i 0) &&
      (if k < 2 then (cf.getD i 0 &&& done == cf.getD i 0) else (List.range n).all (fun j => j == i || done.testBit j || !(am.getD j 0 &&& done == am.getD j 0))) && seqOk n am cf l (done ||| 2 ^ i)

def wpSeq (P : Program) (ops : Array Oper) (Q : Exit → Act → World → Prop) (S : World → Prop) : List (Nat × Nat) → Act → World → Prop
  | [], a, w => Q .normal a w
  | (i, k) :: l, a, w => ∃ o, ops[i]? = some o ∧
      (if k = 0 then ∃ v, (Region.wanted o (yielded ops a.tmps) = true ∧ ∀ w, S w → (execOp a.eval o).run P w = .ok (.value v) w) ∧ wpSeq P ops Q S l (a.put o.dst v) w
      else if k = 1 then Region.wanted o (yielded ops a.tmps) = false ∧ wpSeq P ops Q S l (a.put o.dst undef) w
      else wpOp P ops Q i (fun a' w' => S w' ∧ wpSeq P ops Q S l a' w') a w)

theorem testBit_pow (a b : Nat) : (2 ^ a).testBit b = decide (a = b) := Nat.testBit_two_pow
theorem amOf_bit (md : Region.Mode) (o : Oper) (k : Nat) : (amOf md o).testBit k = true ↔ ∃ e ∈ o.after, Region.binds md e = true ∧ e.on = k := by
  have h : ∀ l : List Edge, (l.foldr (fun e m => if Region.binds md e then m ||| 2 ^ e.on else m) 0).testBit k = true ↔ ∃ e ∈ l, Region.binds md e = true ∧ e.on = k := by
    intro l
    induction l with
    | nil => simp
    | cons e l ih =>
      rw [List.foldr_cons]
      by_cases hb : Region.binds md e = true
      · rw [if_pos hb, Nat.testBit_or, Bool.or_eq_true, ih, testBit_pow]
        simp [hb]
        constructor
        · rintro (h | h)
          · exact Or.inr h
          · exact Or.inl h
        · rintro (h | h)
          · exact Or.inr h
          · exact Or.inl h
      · rw [if_neg hb, ih]
        simp [hb]
  unfold amOf
  rw [h]
  simp
theorem sub_bits {a b : Nat} (h : (a &&& b == a) = true) (k : Nat) (hk : a.testBit k = true) : b.testBit k = true := by
  have e : a &&& b = a := by simpa using h
  rw [← e, Nat.testBit_and, Bool.and_eq_true] at hk
  exact hk.2
theorem bits_sub {a b : Nat} (h : ∀ k, a.testBit k = true → b.testBit k = true) : (a &&& b == a) = true := by
  rw [beq_iff_eq]
  refine Nat.eq_of_testBit_eq fun k => ?_
  rw [Nat.testBit_and]
  cases e : a.testBit k
  · rfl
  · rw [h k e]; rfl
theorem cfOf_bit (md : Region.Mode) (ops : Array Oper) (oi : Oper) (i j : Nat) (oj : Oper) (hji : j ≠ i) (hn : (amOf md oj).testBit i = false) (ha : oi.apart ops oj = false) :
    ∀ (l : List Oper) (s k : Nat), l[k]? = some oj → s + k = j → (cfOf md ops oi i l s).testBit j = true
  | [], _, _, h, _ => by simp at h
  | o :: l, s, 0, h, e => by
    simp at h e
    subst h e
    unfold cfOf
    rw [Nat.testBit_or, if_neg (by simp [hji, hn, ha]), testBit_pow]
    simp
  | o :: l, s, k + 1, h, e => by
    unfold cfOf
    rw [Nat.testBit_or, cfOf_bit md ops oi i j oj hji hn ha l (s + 1) k (by simpa using h) (by omega)]
    simp
theorem cfAll_get (md : Region.Mode) (ops : Array Oper) : ∀ (l : List Oper) (s k : Nat) (o : Oper), l[k]? = some o → (cfAll md ops l s)[k]? = some (cfOf md ops o (s + k) ops.toList 0)
  | [], _, _, _, h => by simp at h
  | o :: l, s, 0, _, h => by simp at h; subst h; simp [cfAll]
  | _ :: l, s, k + 1, o, h => by
    unfold cfAll
    rw [List.getElem?_cons_succ, cfAll_get md ops l (s + 1) k o (by simpa using h)]
    congr 2
    omega

/-- The list of those that have come up, and its bits. -/
structure Inv (n : Nat) (listed : Array Bool) (done : Nat) : Prop where
  size : listed.size = n
  get : ∀ j, j < n → listed[j]? = some (done.testBit j)
  far : ∀ j, n ≤ j → done.testBit j = false
theorem Inv.getF {n done j : Nat} {listed : Array Bool} (h : Inv n listed done) : listed.getD j false = done.testBit j := by
  by_cases c : j < n
  · rw [Array.getD_eq_getD_getElem?, h.get j c]; rfl
  · rw [Array.getD_eq_getD_getElem?, Array.getElem?_eq_none (by rw [h.size]; omega), h.far j (by omega)]; rfl
theorem Inv.getT {n done j : Nat} {listed : Array Bool} (h : Inv n listed done) (c : j < n) : listed.getD j true = done.testBit j := by
  rw [Array.getD_eq_getD_getElem?, h.get j c]; rfl
theorem Inv.set {n done i : Nat} {listed : Array Bool} (h : Inv n listed done) (hi : i < n) : Inv n (listed.setIfInBounds i true) (done ||| 2 ^ i) where
  size := by rw [Array.size_setIfInBounds, h.size]
  get j hj := by
    rw [Array.getElem?_setIfInBounds, Nat.testBit_or, testBit_pow]
    by_cases e : i = j
    · subst e; simp [h.size, hj]
    · rw [if_neg e, h.get j hj]; simp [e]
  far j hj := by
    rw [Nat.testBit_or, testBit_pow, h.far j hj]
    simp; omega
theorem Inv.start (n : Nat) : Inv n (Array.replicate n false) 0 where
  size := by simp
  get j hj := by simp [hj]
  far j _ := by simp

theorem wpAnyH_seq {P : Program} {md : Region.Mode} {ops : Array Oper} {Q : Exit → Act → World → Prop} {S : World → Prop} (am cf : List Nat)
    (ham : ops.toList.map (amOf md) = am) (hcf : cfAll md ops ops.toList 0 = cf) (hs : Region.noSelect ops = true)
    (hQ : ∀ c a w d v, Q (.panic c) (Act.put a d v) w → Q (.panic c) a w) :
    ∀ (l : List (Nat × Nat)) (done : Nat) (listed : Array Bool) (a : Act) (w : World), Inv ops.size listed done → seqOk ops.size am cf l done = true → S w →
      wpSeq P ops Q S l a w → wpAnyH P md ops Q S l.length listed a w := by
  have am_get : ∀ (i : Nat) (o : Oper), ops[i]? = some o → am.getD i 0 = amOf md o := by
    intro i o ho
    rw [← ham, List.getD_eq_getElem?_getD, List.getElem?_map, Array.getElem?_toList, ho]; rfl
  have cf_get : ∀ (i : Nat) (o : Oper), ops[i]? = some o → cf.getD i 0 = cfOf md ops o i ops.toList 0 := by
    intro i o ho
    rw [← hcf, List.getD_eq_getElem?_getD, cfAll_get md ops ops.toList 0 i o (by rw [Array.getElem?_toList]; exact ho), Nat.zero_add]; rfl
  have is_ready : ∀ (i done : Nat) (listed : Array Bool) (o : Oper), Inv ops.size listed done → ops[i]? = some o → done.testBit i = false → (am.getD i 0 &&& done == am.getD i 0) = true → i ∈ Region.ready md ops listed := by
    intro i done listed o hI ho hd ha
    have hin : i < ops.size := (Array.getElem?_eq_some_iff.1 ho).1
    refine mem_ready.2 ⟨by rw [hI.getT hin]; exact hd, o, ho, fun e he hb => ?_⟩
    rw [hI.getF]
    rw [am_get i o ho] at ha
    exact sub_bits ha e.on ((amOf_bit md o e.on).2 ⟨e, he, hb, rfl⟩)
  have ready_is : ∀ (i done : Nat) (listed : Array Bool), Inv ops.size listed done → i ∈ Region.ready md ops listed → i < ops.size ∧ done.testBit i = false ∧ (am.getD i 0 &&& done == am.getD i 0) = true := by
    intro i done listed hI hr
    obtain ⟨h1, o, ho, h2⟩ := mem_ready.1 hr
    have hin : i < ops.size := (Array.getElem?_eq_some_iff.1 ho).1
    refine ⟨hin, by rw [← hI.getT hin]; exact h1, ?_⟩
    rw [am_get i o ho]
    refine bits_sub fun k hk => ?_
    obtain ⟨e, he, hb, rfl⟩ := (amOf_bit md o k).1 hk
    rw [← hI.getF]
    exact h2 e he hb
  intro l
  induction l with
  | nil =>
    intro done listed a w hI hk _ h
    refine ⟨?_, h⟩
    refine List.eq_nil_iff_forall_not_mem.2 fun i hi => ?_
    obtain ⟨h1, h2, _⟩ := ready_is i done listed hI hi
    have := List.all_eq_true.1 hk i (List.mem_range.2 h1)
    rw [h2] at this
    cases this
  | cons x l ih =>
    obtain ⟨i, k⟩ := x
    intro done listed a w hI hk hS h
    unfold seqOk at hk
    simp only [Bool.and_eq_true, decide_eq_true_eq, Bool.not_eq_true'] at hk
    obtain ⟨⟨⟨⟨k1, k2⟩, k3⟩, k4⟩, k5⟩ := hk
    obtain ⟨o, ho, h⟩ := h
    have hr := is_ready i done listed o hI ho k2 k3
    have hI' := hI.set k1
    have hfree : k < 2 → ∀ j oj, ops[j]? = some oj → j ≠ i → listed.getD j true = false → (∀ e ∈ oj.after, Region.binds md e = true → e.on ≠ i) → o.apart ops oj = true := by
      intro hk2 j oj hj hji hun hno
      rw [if_pos hk2, cf_get i o ho] at k4
      cases c : o.apart ops oj
      · exfalso
        have hjn : j < ops.size := (Array.getElem?_eq_some_iff.1 hj).1
        have hb : (amOf md oj).testBit i = false := by
          cases e : (amOf md oj).testBit i
          · rfl
          · obtain ⟨x, hx, hxb, hxi⟩ := (amOf_bit md oj i).1 e
            exact absurd hxi (hno x hx hxb)
        have := sub_bits k4 j (cfOf_bit md ops o i j oj hji hb c ops.toList 0 j (by rw [Array.getElem?_toList]; exact hj) (Nat.zero_add _))
        rw [hI.getT hjn, this] at hun
        cases hun
      · rfl
    rw [List.length_cons]
    by_cases c0 : k = 0
    · rw [if_pos c0] at h
      obtain ⟨v, ⟨hw, hv⟩, h⟩ := h
      exact wpAnyH_first ho (Region.noSelect_spec hs) (fun c a w h => hQ c a w _ _ h) l.length listed a w (hfree (by omega)) hr (Or.inl ⟨hw, hv⟩) hS (ih _ _ _ _ hI' k5 hS h)
    · rw [if_neg c0] at h
      by_cases c1 : k = 1
      · rw [if_pos c1] at h
        exact wpAnyH_first ho (Region.noSelect_spec hs) (fun c a w h => hQ c a w _ _ h) l.length listed a w (hfree (by omega)) hr (Or.inr ⟨h.1, rfl⟩) hS (ih _ _ _ _ hI' k5 hS h.2)
      · rw [if_neg c1] at h
        refine ⟨fun e => (by rw [e] at hr; cases hr), fun j hj => ?_⟩
        have hji : j = i := by
          obtain ⟨q1, q2, q3⟩ := ready_is j done listed hI hj
          rw [if_neg (by omega)] at k4
          have := List.all_eq_true.1 k4 j (List.mem_range.2 q1)
          rw [q2, q3] at this
          simpa using this
        subst hji
        exact wpOp_mono (fun a' w' h' => ⟨h'.1, ih _ _ _ _ hI' k5 h'.1 h'.2⟩) h

/-- The beginning: the order, and that it may be. -/
theorem wp_region_seq {P : Program} {ops : Array Oper} {Q : Exit → Act → World → Prop} {S : World → Prop} {id : Nat} {a : Act} {w : World} (l : List (Nat × Nat)) (am cf : List Nat) (hm : P.follows .mixedOrders = true)
    (hk : (Region.noSelect ops && decide (l.length = ops.size) && decide (ops.toList.map (amOf .any) = am) && decide (cfAll .any ops ops.toList 0 = cf) && seqOk ops.size am cf l 0) = true)
    (hQ : ∀ c a w d v, Q (.panic c) (Act.put a d v) w → Q (.panic c) a w) (hS : S w.drew)
    (h : S w.drew → wpSeq P ops Q S l a w.drew) : (Code.region id ops true).wp P Q a w := by
  simp only [Bool.and_eq_true, decide_eq_true_eq] at hk
  obtain ⟨⟨⟨⟨h1, h2⟩, h3⟩, h4⟩, h5⟩ := hk
  refine wp_region_held_drew hm hS fun hS => ?_
  rw [← h2]
  have := wpAnyH_seq (P := P) (md := .any) (S := S) am cf h3 h4 h1 hQ l 0 (Array.replicate ops.size false) a w.drew (Inv.start _) h5 hS (h hS)
  rw [h2] at this ⊢
  exact this

/-- Taken: it yields its value in every world that meets S. -/
theorem wpSeq_take {P : Program} {ops : Array Oper} {Q : Exit → Act → World → Prop} {S : World → Prop} {l : List (Nat × Nat)} {t : List Value} {df : List _} {w : World} {i d : Nat} {o : Oper} {v : Value}
    (ho : ops.toList[i]? = some o) (hd : o.dst = some d) (hw : Region.wanted o (yielded ops t.toArray) = true)
    (hy : ∀ w, S w → (execOp (Act.eval { tmps := t.toArray, defers := df }) o).run P w = .ok (.value v) w)
    (h : wpSeq P ops Q S l { tmps := (t.set d v).toArray, defers := df } w) : wpSeq P ops Q S ((i, 0) :: l) { tmps := t.toArray, defers := df } w := by
  refine ⟨o, by rw [← Array.getElem?_toList]; exact ho, ?_⟩
  rw [if_pos rfl]
  refine ⟨v, ⟨hw, hy⟩, ?_⟩
  have e : Act.put { tmps := t.toArray, defers := df } o.dst v = { tmps := (t.set d v).toArray, defers := df } := by
    rw [hd]; simp [Act.put]
  rw [e]
  exact h
/-- Passed over: its slot is empty, and stays so. -/
theorem wpSeq_skip {P : Program} {ops : Array Oper} {Q : Exit → Act → World → Prop} {S : World → Prop} {l : List (Nat × Nat)} {t : List Value} {df : List _} {w : World} {i d : Nat} {o : Oper}
    (ho : ops.toList[i]? = some o) (hd : o.dst = some d) (hw : Region.wanted o (yielded ops t.toArray) = false) (ht : t.set d undef = t)
    (h : wpSeq P ops Q S l { tmps := t.toArray, defers := df } w) : wpSeq P ops Q S ((i, 1) :: l) { tmps := t.toArray, defers := df } w := by
  refine ⟨o, by rw [← Array.getElem?_toList]; exact ho, ?_⟩
  rw [if_neg (by decide), if_pos rfl]
  refine ⟨hw, ?_⟩
  have e : Act.put { tmps := t.toArray, defers := df } o.dst undef = { tmps := t.toArray, defers := df } := by
    rw [hd]; simp [Act.put, ht]
  rw [e]
  exact h
/-- Carried out in the world at hand: S is shown anew behind it. -/
theorem wpSeq_call {P : Program} {ops : Array Oper} {Q : Exit → Act → World → Prop} {S : World → Prop} {l : List (Nat × Nat)} {a : Act} {w : World} {i : Nat} {o : Oper}
    (ho : ops.toList[i]? = some o) (hw : Region.wanted o (yielded ops a.tmps) = true)
    (h : ∀ K' : Act → World → Prop, Shut (∀ a w, S w → (S w → wpSeq P ops Q S l a w) → K' a w) → Oper.wp P o a w K' Q) : wpSeq P ops Q S ((i, 2) :: l) a w := by
  rw [Array.getElem?_toList] at ho
  refine ⟨o, ho, ?_⟩
  rw [if_neg (by decide), if_neg (by decide)]
  refine wpOp_step ho fun K' hK => ?_
  rw [if_pos hw]
  exact h K' fun a w hS h => hK a w ⟨hS, h hS⟩
theorem wpSeq_done {P : Program} {ops : Array Oper} {Q : Exit → Act → World → Prop} {S : World → Prop} {a : Act} {w : World} (h : Q .normal a w) : wpSeq P ops Q S [] a w := h
end Go.Proofs.Ytknpabijhmcjhaa
