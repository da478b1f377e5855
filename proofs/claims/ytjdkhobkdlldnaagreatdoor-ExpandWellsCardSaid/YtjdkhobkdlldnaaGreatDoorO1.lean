/-
  A law and what it rests on.
-/
import Derived.Test.YtjdkhobkdlldnaaGreatDoorY25
namespace Go.Proofs.YtjdkhobkdlldnaaGreatDoor
open Go.RowKit

/-- An order; at a fork two operations may come up, both ahead of the gate. -/
inductive Ord where
  | done : Ord
  | step : Nat → Nat → Ord → Ord
  | fork : Nat → Ord → Nat → Ord → Ord
def Ord.len : Ord → Nat
  | .done => 0
  | .step _ _ l => l.len + 1
  | .fork _ l _ _ => l.len + 1

/-- May they come up so? 0: taken, by S, ahead of the gate; 1: passed over; 2: the only one that may come up, ahead of the gate; 3: taken, in whatever world; 4: the gate, or behind it: the only one that may come up. -/
def seqOkF (n g : Nat) (am cf later : List Nat) : Ord → Nat → Bool
  | .done, done => (List.range n).all done.testBit
  | .step i k l, done => decide (i < n) && !done.testBit i && (am.getD i 0 &&& done == am.getD i 0) &&
      (if k = 2 ∨ k = 4 then (List.range n).all (fun j => j == i || done.testBit j || !(am.getD j 0 &&& done == am.getD j 0)) else (cf.getD i 0 &&& done == cf.getD i 0) && i != g) &&
      (if k = 0 then laterOk am i (later.getD i 0) && (later.getD i 0).testBit g else if k = 2 then i != g && !done.testBit g else if k = 4 then i == g || done.testBit g else true) && seqOkF n g am cf later l (done ||| 2 ^ i)
  | .fork i l j r, done => decide (i < n) && decide (j < n) && !done.testBit i && !done.testBit j && (am.getD i 0 &&& done == am.getD i 0) && (am.getD j 0 &&& done == am.getD j 0) &&
      (List.range n).all (fun x => x == i || x == j || done.testBit x || !(am.getD x 0 &&& done == am.getD x 0)) && i != g && j != g && !done.testBit g && l.len == r.len && seqOkF n g am cf later l (done ||| 2 ^ i) && seqOkF n g am cf later r (done ||| 2 ^ j)

def wpSeqF (P : Program) (ops : Array Oper) (Q : Exit → Act → World → Prop) (S : World → Prop) : Ord → Act → World → Prop
  | .done, a, w => Q .normal a w
  | .fork i l j r, a, w => wpOp P ops Q i (fun a' w' => S w' ∧ wpSeqF P ops Q S l a' w') a w ∧ wpOp P ops Q j (fun a' w' => S w' ∧ wpSeqF P ops Q S r a' w') a w
  | .step i k l, a, w => ∃ o, ops[i]? = some o ∧
      (if k = 0 then ∃ v, (Region.wanted o (yielded ops a.tmps) = true ∧ ∀ w, S w → (execOp a.eval o).run P w = .ok (.value v) w) ∧ wpSeqF P ops Q S l (a.put o.dst v) w
      else if k = 1 then Region.wanted o (yielded ops a.tmps) = false ∧ wpSeqF P ops Q S l (a.put o.dst undef) w
      else if k = 2 then wpOp P ops Q i (fun a' w' => S w' ∧ wpSeqF P ops Q S l a' w') a w
      else if k = 3 then ∃ v, (Region.wanted o (yielded ops a.tmps) = true ∧ ∀ w, (execOp a.eval o).run P w = .ok (.value v) w) ∧ wpSeqF P ops Q S l (a.put o.dst v) w
      else k = 4 ∧ wpOp P ops Q i (fun a' w' => wpSeqF P ops Q S l a' w') a w)

theorem wpAnyF_seq {P : Program} {md : Region.Mode} {ops : Array Oper} {Q : Exit → Act → World → Prop} {S : World → Prop} (g : Nat) (am cf later : List Nat) (hgn : g < ops.size)
    (ham : ops.toList.map (amOf md) = am) (hcf : cfAll md ops ops.toList 0 = cf) (hs : Region.noSelect ops = true)
    (hQ : ∀ c a w d v, Q (.panic c) (Act.put a d v) w → Q (.panic c) a w) :
    ∀ (l : Ord) (done : Nat) (listed : Array Bool) (a : Act) (w : World), Inv ops.size listed done → Closed md ops listed → seqOkF ops.size g am cf later l done = true → (done.testBit g = false → S w) →
      wpSeqF P ops Q S l a w → wpAnyG P md ops Q S g l.len listed a w := by
  have am_get : ∀ (i : Nat) (o : Oper), ops[i]? = some o → am.getD i 0 = amOf md o := by
    intro i o ho
    rw [← ham, List.getD_eq_getElem?_getD, List.getElem?_map, Array.getElem?_toList, ho]; rfl
  have am_len : am.length = ops.size := by rw [← ham]; simp
  have cf_get : ∀ (i : Nat) (o : Oper), ops[i]? = some o → cf.getD i 0 = cfOf md ops o i ops.toList 0 := by
    intro i o ho
    rw [← hcf, List.getD_eq_getElem?_getD, cfAll_get md ops ops.toList 0 i o (by rw [Array.getElem?_toList]; exact ho), Nat.zero_add]; rfl
  have is_ready : ∀ (i done : Nat) (listed : Array Bool) (o : Oper), Inv ops.size listed done → ops[i]? = some o → done.testBit i = false → (am.getD i 0 &&& done == am.getD i 0) = true → i ∈ Region.ready md ops listed := by
    intro i done listed o hI ho hd ha
    have hin : i < ops.size := (Array.getElem?_eq_some_iff.1 ho).1
    refine mem_ready.2 ⟨by rw [hI.getT hin]; exact hd, o, ho, fun e he hb => ?_⟩
    rw [hI.getF]
    rw [am_get i o ho] at ha
    exact sub_bits ha e.on ((amOf_bit md o e.on).2 ⟨e, he, hb, rfl⟩)
  have ready_is : ∀ (i done : Nat) (listed : Array Bool), Inv ops.size listed done → i ∈ Region.ready md ops listed → i < ops.size ∧ done.testBit i = false ∧ (am.getD i 0 &&& done == am.getD i 0) = true := by
    intro i done listed hI hr
    obtain ⟨h1, o, ho, h2⟩ := mem_ready.1 hr
    have hin : i < ops.size := (Array.getElem?_eq_some_iff.1 ho).1
    refine ⟨hin, by rw [← hI.getT hin]; exact h1, ?_⟩
    rw [am_get i o ho]
    refine bits_sub fun k hk => ?_
    obtain ⟨e, he, hb, rfl⟩ := (amOf_bit md o k).1 hk
    rw [← hI.getF]
    exact h2 e he hb
  intro l
  induction l with
  | done =>
    intro done listed a w hI _ hk _ h
    refine ⟨?_, h⟩
    refine List.eq_nil_iff_forall_not_mem.2 fun i hi => ?_
    obtain ⟨h1, h2, _⟩ := ready_is i done listed hI hi
    have := List.all_eq_true.1 hk i (List.mem_range.2 h1)
    rw [h2] at this
    cases this
  | fork i l j r ihl ihr =>
    intro done listed a w hI hcl hk hS h
    unfold seqOkF at hk
    simp only [Bool.and_eq_true, decide_eq_true_eq, Bool.not_eq_true', bne_iff_ne, beq_iff_eq] at hk
    obtain ⟨⟨⟨⟨⟨⟨⟨⟨⟨⟨⟨⟨k1, k1'⟩, k2⟩, k2'⟩, k3⟩, k3'⟩, k4⟩, k5⟩, k5'⟩, k6⟩, k7⟩, k8⟩, k8'⟩ := hk
    have gi : ops[i]? = some ops[i] := Array.getElem?_eq_getElem k1
    have gj : ops[j]? = some ops[j] := Array.getElem?_eq_getElem k1'
    have ri := is_ready i done listed _ hI gi k2 (by rw [beq_iff_eq]; exact k3)
    have rj := is_ready j done listed _ hI gj k2' (by rw [beq_iff_eq]; exact k3')
    refine ⟨fun e => (by rw [e] at ri; cases ri), fun x hx => ?_⟩
    obtain ⟨q1, q2, q3⟩ := ready_is x done listed hI hx
    have hd := List.all_eq_true.1 k4 x (List.mem_range.2 q1)
    rw [q2, q3] at hd
    simp only [Bool.not_true, Bool.or_false, Bool.or_eq_true, beq_iff_eq] at hd
    by_cases hxi : x = i
    · subst hxi
      exact wpOp_mono (fun a' w' h' => ⟨fun _ _ => h'.1, ihl _ _ _ _ (hI.set k1) (hcl.set ri) k8 (fun _ => h'.1) h'.2⟩) h.1
    · have hxj : x = j := by
        rcases hd with hd | hd
        · exact absurd hd hxi
        · exact hd
      subst hxj
      have e := wpOp_mono (fun a' w' h' => (⟨fun _ _ => h'.1, ihr _ _ _ _ (hI.set k1') (hcl.set rj) k8' (fun _ => h'.1) h'.2⟩ : (x ≠ g → listed.getD g false = false → S w') ∧ wpAnyG P md ops Q S g r.len (listed.setIfInBounds x true) a' w')) h.2
      rw [← k7] at e
      exact e
  | step i k l ih =>
    intro done listed a w hI hcl hk hS h
    unfold seqOkF at hk
    simp only [Bool.and_eq_true, decide_eq_true_eq, Bool.not_eq_true'] at hk
    obtain ⟨⟨⟨⟨⟨k1, k2⟩, k3⟩, k4⟩, k5⟩, k6⟩ := hk
    obtain ⟨o, ho, h⟩ := h
    have hr := is_ready i done listed o hI ho k2 k3
    have hI' := hI.set k1
    have hcl' := hcl.set hr
    have gbit : ∀ j, j ≠ g → (done ||| 2 ^ j).testBit g = done.testBit g := fun j hj => by
      rw [Nat.testBit_or, testBit_pow]
      simp [hj]
    have hfree : ¬ (k = 2 ∨ k = 4) → i ≠ g ∧ ∀ j oj, ops[j]? = some oj → j ≠ i → listed.getD j true = false → (∀ e ∈ oj.after, Region.binds md e = true → e.on ≠ i) → o.apart ops oj = true := by
      intro hk2
      rw [if_neg hk2] at k4
      simp only [Bool.and_eq_true, bne_iff_ne] at k4
      refine ⟨k4.2, ?_⟩
      intro j oj hj hji hun hno
      cases c : o.apart ops oj
      · exfalso
        have hjn : j < ops.size := (Array.getElem?_eq_some_iff.1 hj).1
        have hb : (amOf md oj).testBit i = false := by
          cases e : (amOf md oj).testBit i
          · rfl
          · obtain ⟨x, hx, hxb, hxi⟩ := (amOf_bit md oj i).1 e
            exact absurd hxi (hno x hx hxb)
        have k4' := k4.1
        rw [cf_get i o ho] at k4'
        have := sub_bits k4' j (cfOf_bit md ops o i j oj hji hb c ops.toList 0 j (by rw [Array.getElem?_toList]; exact hj) (Nat.zero_add _))
        rw [hI.getT hjn, this] at hun
        cases hun
      · rfl
    have only : (k = 2 ∨ k = 4) → ∀ j ∈ Region.ready md ops listed, j = i := by
      intro hk2 j hj
      rw [if_pos hk2] at k4
      obtain ⟨q1, q2, q3⟩ := ready_is j done listed hI hj
      have := List.all_eq_true.1 k4 j (List.mem_range.2 q1)
      rw [q2, q3] at this
      simpa using this
    have hSl : listed.getD g false = false → S w := fun hg => hS (by rw [← hI.getF]; exact hg)
    by_cases c0 : k = 0
    · subst c0
      obtain ⟨hig, hfr⟩ := hfree (by omega)
      rw [if_pos rfl] at h k5
      simp only [Bool.and_eq_true] at k5
      obtain ⟨v, ⟨hw, hv⟩, h⟩ := h
      have hB := behind_of (g := g) am ham i (later.getD i 0) k5.1 k5.2 (Ne.symm hig) (by omega)
      obtain ⟨hg1, _⟩ := hB listed hcl (mem_ready.1 hr).1
      exact wpAnyG_first (T := S) ho (Region.noSelect_spec hs) hig (.inr ⟨fun _ h => h, hB⟩) (fun c a w h => hQ c a w _ _ h) l.len listed a w hcl hfr hr (Or.inl ⟨hw, hv⟩) (hSl hg1) hSl
        (ih _ _ _ _ hI' hcl' k6 (fun hg => hSl hg1) h)
    rw [if_neg c0] at h
    by_cases c1 : k = 1
    · subst c1
      obtain ⟨hig, hfr⟩ := hfree (by omega)
      rw [if_pos rfl] at h
      exact wpAnyG_first (T := fun _ => True) ho (Region.noSelect_spec hs) hig (.inl fun _ => trivial) (fun c a w h => hQ c a w _ _ h) l.len listed a w hcl hfr hr (Or.inr ⟨h.1, rfl⟩) trivial hSl
        (ih _ _ _ _ hI' hcl' k6 (fun hg => hS (by rw [gbit i hig] at hg; exact hg)) h.2)
    rw [if_neg c1] at h
    by_cases c2 : k = 2
    · subst c2
      rw [if_pos rfl] at h
      simp only [if_neg c0, if_true, Bool.and_eq_true, bne_iff_ne, Bool.not_eq_true'] at k5
      refine ⟨fun e => (by rw [e] at hr; cases hr), fun j hj => ?_⟩
      obtain rfl := only (Or.inl rfl) j hj
      exact wpOp_mono (fun a' w' h' => ⟨fun _ _ => h'.1, ih _ _ _ _ hI' hcl' k6 (fun _ => h'.1) h'.2⟩) h
    rw [if_neg c2] at h
    by_cases c3 : k = 3
    · subst c3
      obtain ⟨hig, hfr⟩ := hfree (by omega)
      rw [if_pos rfl] at h
      obtain ⟨v, ⟨hw, hv⟩, h⟩ := h
      exact wpAnyG_first (T := fun _ => True) ho (Region.noSelect_spec hs) hig (.inl fun _ => trivial) (fun c a w h => hQ c a w _ _ h) l.len listed a w hcl hfr hr (Or.inl ⟨hw, fun w _ => hv w⟩) trivial hSl
        (ih _ _ _ _ hI' hcl' k6 (fun hg => hS (by rw [gbit i hig] at hg; exact hg)) h)
    rw [if_neg c3] at h
    obtain ⟨c4, h⟩ := h
    subst c4
    simp only [if_neg c0, if_neg c2, if_true, Bool.or_eq_true, beq_iff_eq] at k5
    refine ⟨fun e => (by rw [e] at hr; cases hr), fun j hj => ?_⟩
    obtain rfl := only (Or.inr rfl) j hj
    have hdone : (done ||| 2 ^ j).testBit g = true := by
      rw [Nat.testBit_or, testBit_pow]
      rcases k5 with rfl | k5
      · simp
      · rw [k5]; rfl
    have hls : listed.getD g false = false → j = g := fun hg => by
      rcases k5 with k5 | k5
      · exact k5
      · rw [hI.getF, k5] at hg; cases hg
    exact wpOp_mono (fun a' w' h' => ⟨fun hjg hg => absurd (hls hg) hjg, ih _ _ _ _ hI' hcl' k6 (fun hg => by rw [hdone] at hg; cases hg) h'⟩) h

/-- The beginning: the order, and that it may be. -/
theorem wp_region_fork {P : Program} {ops : Array Oper} {Q : Exit → Act → World → Prop} {S : World → Prop} {id : Nat} {a : Act} {w : World} (g : Nat) (l : Ord) (am cf later : List Nat) (hm : P.follows .mixedOrders = true)
    (hk : (Region.noSelect ops && decide (l.len = ops.size) && decide (g < ops.size) && decide (ops.toList.map (amOf .any) = am) && decide (cfAll .any ops ops.toList 0 = cf) && seqOkF ops.size g am cf later l 0) = true)
    (hQ : ∀ c a w d v, Q (.panic c) (Act.put a d v) w → Q (.panic c) a w) (hS : S w.drew)
    (h : S w.drew → wpSeqF P ops Q S l a w.drew) : (Code.region id ops true).wp P Q a w := by
  simp only [Bool.and_eq_true, decide_eq_true_eq] at hk
  obtain ⟨⟨⟨⟨⟨h1, h2⟩, hg⟩, h3⟩, h4⟩, h5⟩ := hk
  refine wp_region_any hm ?_
  rw [← h2]
  refine wpAny_of_gate (S := S) (g := g) _ _ _ _ ?_
  have := wpAnyF_seq (P := P) (md := .any) (S := S) g am cf later hg h3 h4 h1 hQ l 0 (Array.replicate ops.size false) a w.drew (Inv.start _) (fun j oj hj hl => by
    rw [Array.getD_eq_getD_getElem?, Array.getElem?_replicate] at hl
    split at hl <;> simp at hl) h5 (fun _ => hS) (h hS)
  rw [h2] at this ⊢
  exact this

theorem wpSeqF_take {P : Program} {ops : Array Oper} {Q : Exit → Act → World → Prop} {S : World → Prop} {l : Ord} {t : List Value} {df : List _} {w : World} {i d : Nat} {o : Oper} {v : Value}
    (ho : ops.toList[i]? = some o) (hd : o.dst = some d) (hw : Region.wanted o (yielded ops t.toArray) = true)
    (hy : ∀ w, S w → (execOp (Act.eval { tmps := t.toArray, defers := df }) o).run P w = .ok (.value v) w)
    (h : wpSeqF P ops Q S l { tmps := (t.set d v).toArray, defers := df } w) : wpSeqF P ops Q S (.step i 0 l) { tmps := t.toArray, defers := df } w := by
  refine ⟨o, by rw [← Array.getElem?_toList]; exact ho, ?_⟩
  rw [if_pos rfl]
  refine ⟨v, ⟨hw, hy⟩, ?_⟩
  have e : Act.put { tmps := t.toArray, defers := df } o.dst v = { tmps := (t.set d v).toArray, defers := df } := by
    rw [hd]; simp [Act.put]
  rw [e]
  exact h
theorem wpSeqF_free {P : Program} {ops : Array Oper} {Q : Exit → Act → World → Prop} {S : World → Prop} {l : Ord} {t : List Value} {df : List _} {w : World} {i d : Nat} {o : Oper} {v : Value}
    (ho : ops.toList[i]? = some o) (hd : o.dst = some d) (hw : Region.wanted o (yielded ops t.toArray) = true)
    (hy : ∀ w, (execOp (Act.eval { tmps := t.toArray, defers := df }) o).run P w = .ok (.value v) w)
    (h : wpSeqF P ops Q S l { tmps := (t.set d v).toArray, defers := df } w) : wpSeqF P ops Q S (.step i 3 l) { tmps := t.toArray, defers := df } w := by
  refine ⟨o, by rw [← Array.getElem?_toList]; exact ho, ?_⟩
  rw [if_neg (by decide), if_neg (by decide), if_neg (by decide), if_pos rfl]
  refine ⟨v, ⟨hw, hy⟩, ?_⟩
  have e : Act.put { tmps := t.toArray, defers := df } o.dst v = { tmps := (t.set d v).toArray, defers := df } := by
    rw [hd]; simp [Act.put]
  rw [e]
  exact h
theorem wpSeqF_skip {P : Program} {ops : Array Oper} {Q : Exit → Act → World → Prop} {S : World → Prop} {l : Ord} {t : List Value} {df : List _} {w : World} {i d : Nat} {o : Oper}
    (ho : ops.toList[i]? = some o) (hd : o.dst = some d) (hw : Region.wanted o (yielded ops t.toArray) = false) (ht : t.set d undef = t)
    (h : wpSeqF P ops Q S l { tmps := t.toArray, defers := df } w) : wpSeqF P ops Q S (.step i 1 l) { tmps := t.toArray, defers := df } w := by
  refine ⟨o, by rw [← Array.getElem?_toList]; exact ho, ?_⟩
  rw [if_neg (by decide), if_pos rfl]
  refine ⟨hw, ?_⟩
  have e : Act.put { tmps := t.toArray, defers := df } o.dst undef = { tmps := t.toArray, defers := df } := by
    rw [hd]; simp [Act.put, ht]
  rw [e]
  exact h
theorem wpSeqF_call {P : Program} {ops : Array Oper} {Q : Exit → Act → World → Prop} {S : World → Prop} {l : Ord} {a : Act} {w : World} {i : Nat} {o : Oper}
    (ho : ops.toList[i]? = some o) (hw : Region.wanted o (yielded ops a.tmps) = true)
    (h : ∀ K' : Act → World → Prop, Shut (∀ a w, S w → (S w → wpSeqF P ops Q S l a w) → K' a w) → Oper.wp P o a w K' Q) : wpSeqF P ops Q S (.step i 2 l) a w := by
  rw [Array.getElem?_toList] at ho
  refine ⟨o, ho, ?_⟩
  rw [if_neg (by decide), if_neg (by decide), if_pos rfl]
  refine wpOp_step ho fun K' hK => ?_
  rw [if_pos hw]
  exact h K' fun a w hS h => hK a w ⟨hS, h hS⟩
theorem wpSeqF_gate {P : Program} {ops : Array Oper} {Q : Exit → Act → World → Prop} {S : World → Prop} {l : Ord} {a : Act} {w : World} {i : Nat} {o : Oper}
    (ho : ops.toList[i]? = some o) (hw : Region.wanted o (yielded ops a.tmps) = true)
    (h : ∀ K' : Act → World → Prop, Shut (∀ a w, wpSeqF P ops Q S l a w → K' a w) → Oper.wp P o a w K' Q) : wpSeqF P ops Q S (.step i 4 l) a w := by
  rw [Array.getElem?_toList] at ho
  refine ⟨o, ho, ?_⟩
  rw [if_neg (by decide), if_neg (by decide), if_neg (by decide), if_neg (by decide)]
  refine ⟨rfl, wpOp_step ho fun K' hK => ?_⟩
  rw [if_pos hw]
  exact h K' fun a w h => hK a w h
theorem wpSeqF_done {P : Program} {ops : Array Oper} {Q : Exit → Act → World → Prop} {S : World → Prop} {a : Act} {w : World} (h : Q .normal a w) : wpSeqF P ops Q S .done a w := h
theorem wpSeqF_fork {P : Program} {ops : Array Oper} {Q : Exit → Act → World → Prop} {S : World → Prop} {l r : Ord} {a : Act} {w : World} {i j : Nat} {o o' : Oper}
    (ho : ops.toList[i]? = some o) (ho' : ops.toList[j]? = some o') (hw : Region.wanted o (yielded ops a.tmps) = true) (hw' : Region.wanted o' (yielded ops a.tmps) = true)
    (h : ∀ K' : Act → World → Prop, Shut (∀ a w, S w → (S w → wpSeqF P ops Q S l a w) → K' a w) → Oper.wp P o a w K' Q)
    (h' : ∀ K' : Act → World → Prop, Shut (∀ a w, S w → (S w → wpSeqF P ops Q S r a w) → K' a w) → Oper.wp P o' a w K' Q) : wpSeqF P ops Q S (.fork i l j r) a w := by
  rw [Array.getElem?_toList] at ho ho'
  refine ⟨wpOp_step ho fun K' hK => ?_, wpOp_step ho' fun K' hK => ?_⟩
  · rw [if_pos hw]
    exact h K' fun a w hS h => hK a w ⟨hS, h hS⟩
  · rw [if_pos hw']
    exact h' K' fun a w hS h => hK a w ⟨hS, h hS⟩
end Go.Proofs.YtjdkhobkdlldnaaGreatDoor
namespace Go.Proofs.YtjdkhobkdlldnaaGreatDoor
open Go.RowKit
set_option linter.unusedVariables false

theorem ins_wps {w : World} {S : List Sp} {us : List Value} {i : Nat} {x : Sp} {u : Value} (hl : us.length = S.length) (hi : i ≤ S.length) (h : ∀ (j : Nat) v s, us[j]? = some v → S[j]? = some s → IsWps w v s.w) (hx : IsWps w u x.w) :
    ∀ (j : Nat) v s, (us.take i ++ [u] ++ us.drop i)[j]? = some v → (S.take i ++ [x] ++ S.drop i)[j]? = some s → IsWps w v s.w := by
  intro j v s h1 h2
  have e1 : (us.take i).length = i := by rw [List.length_take]; omega
  have e2 : (S.take i).length = i := by rw [List.length_take]; omega
  rw [List.append_assoc] at h1 h2
  by_cases hj : j < i
  · rw [List.getElem?_append_left (by omega), List.getElem?_take, if_pos hj] at h1 h2
    exact h j v s h1 h2
  · rw [List.getElem?_append_right (by omega)] at h1 h2
    rw [e1] at h1
    rw [e2] at h2
    obtain ⟨m, hm⟩ : ∃ m, j - i = m := ⟨_, rfl⟩
    rw [hm] at h1 h2
    match m, h1, h2 with
    | 0, h1, h2 =>
      obtain rfl : u = v := by simpa using h1
      obtain rfl : x = s := by simpa using h2
      exact hx
    | m + 1, h1, h2 =>
      rw [List.singleton_append, List.getElem?_cons_succ, List.getElem?_drop] at h1 h2
      exact h _ v s h1 h2
theorem rowIn0 (w : World) (a : Addr) (c : Nat) : RowIn w (.slice (some a) 0 c) 0 [] := .inr ⟨a, c, rfl, fun j u h => by simp at h⟩
theorem wpsI13_of {l : List Wp} (h : wellsOk l = true) : WpsI l := fun p hp => by
  unfold wellsOk at h
  rw [List.all_eq_true] at h
  have h1 := h p hp
  have hc : nameS p.n = true ∧ 0 ≤ p.r ∧ p.r < 8 ∧ 0 ≤ p.c ∧ p.c < 12 := by
    unfold Wp.t wellT at h1
    split at h1
    · assumption
    · cases h1
  unfold I64
  omega
theorem ins_spsI {S : List Sp} {i : Nat} {x : Sp} (h : ∀ s ∈ S, stepOk s = true) (hx : stepOk x = true) : SpsI (S.take i ++ [x] ++ S.drop i) := fun s hs => by
  have key : stepOk s = true := by
    rcases List.mem_append.1 hs with hs | hs
    · rcases List.mem_append.1 hs with hs | hs
      · exact h s (List.mem_of_mem_take hs)
      · rw [List.mem_singleton.1 hs]; exact hx
    · exact h s (List.mem_of_mem_drop hs)
  unfold stepOk at key
  rw [Bool.and_eq_true] at key
  exact wpsI13_of key.1
set_option maxRecDepth 100000 in
set_option maxHeartbeats 4000000 in
theorem wells13_any (pv : Value) (ps : List Pz) (at_ k : Nat) (hat : at_ < 256) (hk : k < 256) (w : World) (hP : IsPzs w pv ps) : Calls Tryz.prog 4 #[pv, .int .u8 (at_ : Int), .int .u8 (k : Int)] w fun e w' => e = .returned (.bool true) ∧ B w w' := by
  have ck := known13_any w
  have cB := fun w' => boards13_any 0 1 0 1 _ [] (by decide) (by decide) (by decide) (by decide) (by decide) w' (isU32s_nil w')
  obtain ⟨po, pc, rfl⟩ := hP.form
  obtain ⟨pn, hpn⟩ : ∃ pn, ps.length = pn := ⟨_, rfl⟩
  rw [hpn] at hP ⊢
  by_cases hbig : 10 < pn
  · have t1 : decide ((10 : Int) < (pn : Int)) = true := decide_eq_true (by omega)
    have t2 : decide (10 < pn) = true := decide_eq_true hbig
    clear hP
    go_enter Tryz.func4, Tryz.ntmps4
    go_wp2_with fail
    refine ck.mono ?_
    rintro e w1 ⟨rfl, q1⟩
    go_wp2
    go_ret
    exact ⟨rfl, q1⟩
  have t1 : decide ((10 : Int) < (pn : Int)) = false := decide_eq_false (by omega)
  have t2 : decide (10 < pn) = false := decide_eq_false hbig
  have hD : seatD 0 1 0 1 [] = wlD := rfl
  rw [hD] at cB
  have hwb : ∀ x ∈ wlD.ws, wareB x := seat_wares (by decide) (by decide) (by decide) (by decide)
  have hnm : ∀ x ∈ wlD.ws, nameS x.n = true := fun x hx => by
    have hx' : x ∈ wares7 0 1 0 1 := hx
    unfold wares7 at hx'
    simp only [List.mem_cons, List.not_mem_nil, or_false] at hx'
    rcases hx' with rfl | rfl
    · exact nameS_plate
    · exact nameS_tube
  have hok := (seat_steps_ok (d := wlD) hwb hnm (by rw [wl_count]; decide) (ps := ps) (by omega)).2
  have cS := fun w1 wv tv fv (hD : IsDk w1 wv tv fv wlD) (q : B w w1) => steps_any wv tv fv (.slice po pn pc) wlD ps w1 hD (hP.keepB q) hwb (by show 2 ≤ 100; omega) (by rw [wl_count]; decide) (by rw [wl_count]; decide) (by omega)
  have hops := fun i r hi => wl_ops ps (by omega) i r hi hok
  obtain ⟨L, hL⟩ : ∃ L, pn + 1 = L := ⟨_, rfl⟩
  have hlen : (seatSteps wlD ps).length = L := by unfold seatSteps; simp; omega
  have HS := Lib.hid (And.intro hops (And.intro hok hlen))
  have hL12 : 1 ≤ L ∧ L ≤ 11 := by omega
  obtain ⟨i0, hi0, hz0, hz1, hz2⟩ := info_of stepI13
  obtain ⟨a9, ha9⟩ : ∃ a9, at_ % L = a9 := ⟨_, rfl⟩
  have ha9T : (at_ : Int).tmod (L : Int) = (a9 : Int) := by rw [← ha9]; exact (Int.ofNat_tmod at_ L).symm
  have ha9L : a9 < L := by rw [← ha9]; exact Nat.mod_lt _ (by omega)
  obtain ⟨i, hi9⟩ : ∃ i, a9 + 1 = i := ⟨_, rfl⟩
  have wat : IntKind.i64.wrap (at_ : Int) = (at_ : Int) := by rw [IntKind.wrap_i64]; omega
  have wi : IntKind.i64.wrap (1 + (a9 : Int)) = (i : Int) := by rw [IntKind.wrap_i64]; omega
  have wa9 : IntKind.i64.wrap (a9 : Int) = (a9 : Int) := by rw [IntKind.wrap_i64]; omega
  have hL0 : ¬ L = 0 := by omega
  have hL0' : ¬ (L : Int) = 0 := by omega
  have hib : 1 ≤ i ∧ i ≤ L := by omega
  obtain ⟨r, hr⟩ : ∃ r, k % 3 = r := ⟨_, rfl⟩
  have hrT : (k : Int).tmod 3 = (r : Int) := by rw [← hr]; exact (Int.ofNat_tmod k 3).symm
  have wr : IntKind.u8.wrap (r : Int) = (r : Int) := by rw [IntKind.wrap_u8]; omega
  have hrb : r = 0 ∨ r = 1 ∨ r = 2 := by omega
  have HR := Lib.hid hrb
  clear hops hok hlen hwb hnm hP hpn hL ha9 hr hrb hat hk hbig hi9
  go_enter Tryz.func4, Tryz.ntmps4
  go_wp2_with fail
  refine ck.mono ?_
  rintro e w1 ⟨rfl, q1⟩
  have cB1 := cB w1
  clear ck cB
  go_wp2_with fail
  refine cB1.mono ?_
  rintro e w2 ⟨P, X, b, wv, tv, fv, rfl, hPd, hM, hDk, hRB, q2⟩
  have cO := fun w' (q : B w2 w') lv L hL hI => xops_any wlD hPd w' (hM.keepB q) (by show (0 : Nat) ≤ _; omega) lv L hL hI
  obtain ⟨gw, cw, gt, ct, oR, _, _⟩ := hRB
  have HP := Lib.hid (And.intro hPd (q1.trans q2))
  have cS2 := cS w2 wv tv fv hDk (q1.trans q2)
  obtain ⟨a1, c1, a2, c2, a3, c3, rfl, rfl, rfl⟩ := hDk.forms
  have k0 := obj_cell oR 0
  have k1 := obj_cell oR 1
  have k2 := obj_cell oR 2
  generalize P.b = pb at *
  clear hM cB1 cS q1 q2 hPd hDk oR
  go_wp2_with fail
  refine Calls.mono cS2 ?_
  rintro e w3 ⟨sv, rfl, hS, q3⟩
  obtain ⟨us, hus1, hus2, hus3, hus4⟩ := hS.rowIn
  obtain ⟨so, sc, rfl⟩ := hS.form
  rw [HS.out.2.2] at hS hus1 hus2 ⊢
  obtain ⟨a, rfl⟩ : ∃ a, so = some a := by
    rcases hS with ⟨h, _⟩ | ⟨a, _, h, _⟩
    · simp only [Value.slice.injEq] at h; omega
    · simp only [Value.slice.injEq] at h; exact ⟨a, h.1⟩
  have hcap : L ≤ sc ∧ sc ≤ maxLen := by
    rcases hS with ⟨h, _⟩ | ⟨a', c', h, h1, h2, _⟩
    · simp only [Value.slice.injEq] at h; omega
    · simp only [Value.slice.injEq] at h
      rw [HS.out.2.2] at h1
      omega
  have HC := Lib.hid hcap
  have HSS := Lib.hid (And.intro hus1 (And.intro hus2 (And.intro hus3 (And.intro hus4 q3))))
  clear hS hus1 hus2 hus3 hus4 q3 hcap cS2
  rcases HR.out with rfl | rfl | rfl
  · have q39 : B w3 ((((w3.alloc (.cells #[.string ⟨#[112, 108, 97, 116, 101]⟩, .int .i64 0, .int .i64 0, .string ⟨#[112, 108, 97, 116, 101]⟩, .int .i64 7, .int .i64 0] 39)).alloc (.cells #[.string ⟨#[110, 111, 110, 101]⟩, .int .i64 0, .int .i64 0] 39)).alloc (.cells #[.int .i64 2, .string ⟨#[]⟩, .slice (some ⟨w3.heap.size, 0, none⟩) 2 2, .int .i64 5, .int .i64 0, .int .i64 5, .string ⟨#[]⟩, .slice (some ⟨w3.heap.size + 1, 0, none⟩) 1 1, .int .i64 5, .int .i64 1, .int .i64 0, .string ⟨#[116, 51]⟩, .slice none 0 0, .int .i64 0, .int .i64 0] 67)).alloc (.cells #[.int .i64 2, .string ⟨#[]⟩, .slice (some ⟨w3.heap.size, 0, none⟩) 2 2, .int .i64 5, .int .i64 0] 67)) := ((((B.refl w3).alloc _ _).alloc _ _).alloc _ _).alloc _ _
    have hwX : IsWps ((((w3.alloc (.cells #[.string ⟨#[112, 108, 97, 116, 101]⟩, .int .i64 0, .int .i64 0, .string ⟨#[112, 108, 97, 116, 101]⟩, .int .i64 7, .int .i64 0] 39)).alloc (.cells #[.string ⟨#[110, 111, 110, 101]⟩, .int .i64 0, .int .i64 0] 39)).alloc (.cells #[.int .i64 2, .string ⟨#[]⟩, .slice (some ⟨w3.heap.size, 0, none⟩) 2 2, .int .i64 5, .int .i64 0, .int .i64 5, .string ⟨#[]⟩, .slice (some ⟨w3.heap.size + 1, 0, none⟩) 1 1, .int .i64 5, .int .i64 1, .int .i64 0, .string ⟨#[116, 51]⟩, .slice none 0 0, .int .i64 0, .int .i64 0] 67)).alloc (.cells #[.int .i64 2, .string ⟨#[]⟩, .slice (some ⟨w3.heap.size, 0, none⟩) 2 2, .int .i64 5, .int .i64 0] 67)) (.slice (some ⟨w3.heap.size, 0, none⟩) 2 2) (wlX 0).w := (wps_lit w3 [⟨namePlate, 0, 0⟩, ⟨namePlate, 7, 0⟩] (by simp)).keepB (show B (w3.alloc (.cells #[.string ⟨#[112, 108, 97, 116, 101]⟩, .int .i64 0, .int .i64 0, .string ⟨#[112, 108, 97, 116, 101]⟩, .int .i64 7, .int .i64 0] 39)) ((((w3.alloc (.cells #[.string ⟨#[112, 108, 97, 116, 101]⟩, .int .i64 0, .int .i64 0, .string ⟨#[112, 108, 97, 116, 101]⟩, .int .i64 7, .int .i64 0] 39)).alloc (.cells #[.string ⟨#[110, 111, 110, 101]⟩, .int .i64 0, .int .i64 0] 39)).alloc (.cells #[.int .i64 2, .string ⟨#[]⟩, .slice (some ⟨w3.heap.size, 0, none⟩) 2 2, .int .i64 5, .int .i64 0, .int .i64 5, .string ⟨#[]⟩, .slice (some ⟨w3.heap.size + 1, 0, none⟩) 1 1, .int .i64 5, .int .i64 1, .int .i64 0, .string ⟨#[116, 51]⟩, .slice none 0 0, .int .i64 0, .int .i64 0] 67)).alloc (.cells #[.int .i64 2, .string ⟨#[]⟩, .slice (some ⟨w3.heap.size, 0, none⟩) 2 2, .int .i64 5, .int .i64 0] 67)) from (((B.refl _).alloc _ _).alloc _ _).alloc _ _)
    have oX : ((((w3.alloc (.cells #[.string ⟨#[112, 108, 97, 116, 101]⟩, .int .i64 0, .int .i64 0, .string ⟨#[112, 108, 97, 116, 101]⟩, .int .i64 7, .int .i64 0] 39)).alloc (.cells #[.string ⟨#[110, 111, 110, 101]⟩, .int .i64 0, .int .i64 0] 39)).alloc (.cells #[.int .i64 2, .string ⟨#[]⟩, .slice (some ⟨w3.heap.size, 0, none⟩) 2 2, .int .i64 5, .int .i64 0, .int .i64 5, .string ⟨#[]⟩, .slice (some ⟨w3.heap.size + 1, 0, none⟩) 1 1, .int .i64 5, .int .i64 1, .int .i64 0, .string ⟨#[116, 51]⟩, .slice none 0 0, .int .i64 0, .int .i64 0] 67)).alloc (.cells #[.int .i64 2, .string ⟨#[]⟩, .slice (some ⟨w3.heap.size, 0, none⟩) 2 2, .int .i64 5, .int .i64 0] 67)).heap[w3.heap.size + 1 + 1 + 1]? = some (.cells #[.int .i64 2, .string ⟨#[]⟩, .slice (some ⟨w3.heap.size, 0, none⟩) 2 2, .int .i64 5, .int .i64 0] 67 (0, 0)) := by
      have := obj_new (((w3.alloc (.cells #[.string ⟨#[112, 108, 97, 116, 101]⟩, .int .i64 0, .int .i64 0, .string ⟨#[112, 108, 97, 116, 101]⟩, .int .i64 7, .int .i64 0] 39)).alloc (.cells #[.string ⟨#[110, 111, 110, 101]⟩, .int .i64 0, .int .i64 0] 39)).alloc (.cells #[.int .i64 2, .string ⟨#[]⟩, .slice (some ⟨w3.heap.size, 0, none⟩) 2 2, .int .i64 5, .int .i64 0, .int .i64 5, .string ⟨#[]⟩, .slice (some ⟨w3.heap.size + 1, 0, none⟩) 1 1, .int .i64 5, .int .i64 1, .int .i64 0, .string ⟨#[116, 51]⟩, .slice none 0 0, .int .i64 0, .int .i64 0] 67)) (.cells #[.int .i64 2, .string ⟨#[]⟩, .slice (some ⟨w3.heap.size, 0, none⟩) 2 2, .int .i64 5, .int .i64 0] 67)
      rw [show (((w3.alloc (.cells #[.string ⟨#[112, 108, 97, 116, 101]⟩, .int .i64 0, .int .i64 0, .string ⟨#[112, 108, 97, 116, 101]⟩, .int .i64 7, .int .i64 0] 39)).alloc (.cells #[.string ⟨#[110, 111, 110, 101]⟩, .int .i64 0, .int .i64 0] 39)).alloc (.cells #[.int .i64 2, .string ⟨#[]⟩, .slice (some ⟨w3.heap.size, 0, none⟩) 2 2, .int .i64 5, .int .i64 0, .int .i64 5, .string ⟨#[]⟩, .slice (some ⟨w3.heap.size + 1, 0, none⟩) 1 1, .int .i64 5, .int .i64 1, .int .i64 0, .string ⟨#[116, 51]⟩, .slice none 0 0, .int .i64 0, .int .i64 0] 67)).heap.size = w3.heap.size + 1 + 1 + 1 by simp] at this
      exact this
    have k0x := obj_cell oX 0
    have k1x := obj_cell oX 1
    have k2x := obj_cell oX 2
    have k3x := obj_cell oX 3
    have k4x := obj_cell oX 4
    obtain ⟨X1, hX1⟩ : ∃ X1, flatSp ((seatSteps wlD ps).take i) (us.take i) = X1 := ⟨_, rfl⟩
    obtain ⟨X2, hX2⟩ : ∃ X2, flatSp ((seatSteps wlD ps).drop i) (us.drop i) = X2 := ⟨_, rfl⟩
    have hus1 : us.length = (seatSteps wlD ps).length := by rw [HSS.out.1, HS.out.2.2]
    have hR1 := Lib.hid (And.intro (show RowIn ((((w3.alloc (.cells #[.string ⟨#[112, 108, 97, 116, 101]⟩, .int .i64 0, .int .i64 0, .string ⟨#[112, 108, 97, 116, 101]⟩, .int .i64 7, .int .i64 0] 39)).alloc (.cells #[.string ⟨#[110, 111, 110, 101]⟩, .int .i64 0, .int .i64 0] 39)).alloc (.cells #[.int .i64 2, .string ⟨#[]⟩, .slice (some ⟨w3.heap.size, 0, none⟩) 2 2, .int .i64 5, .int .i64 0, .int .i64 5, .string ⟨#[]⟩, .slice (some ⟨w3.heap.size + 1, 0, none⟩) 1 1, .int .i64 5, .int .i64 1, .int .i64 0, .string ⟨#[116, 51]⟩, .slice none 0 0, .int .i64 0, .int .i64 0] 67)).alloc (.cells #[.int .i64 2, .string ⟨#[]⟩, .slice (some ⟨w3.heap.size, 0, none⟩) 2 2, .int .i64 5, .int .i64 0] 67)) (.slice (some a) i sc) i X1 by rw [← hX1]; exact (rowIn_take HSS.out.2.1 hus1 hib.2).keepB q39) (And.intro (show X1.length = i * 5 by rw [← hX1, flatSp_len _ _ (by rw [List.length_take, List.length_take, hus1]), List.length_take, HS.out.2.2]; omega) (show ∀ u ∈ X1, u.oneCell' = true from fun u hu => by rw [← hX1, ← flatSp_take _ _ _ hus1] at hu; exact HSS.out.2.2.1 u (List.mem_of_mem_take hu))))
    have hR2 := Lib.hid (And.intro (show RowIn ((((w3.alloc (.cells #[.string ⟨#[112, 108, 97, 116, 101]⟩, .int .i64 0, .int .i64 0, .string ⟨#[112, 108, 97, 116, 101]⟩, .int .i64 7, .int .i64 0] 39)).alloc (.cells #[.string ⟨#[110, 111, 110, 101]⟩, .int .i64 0, .int .i64 0] 39)).alloc (.cells #[.int .i64 2, .string ⟨#[]⟩, .slice (some ⟨w3.heap.size, 0, none⟩) 2 2, .int .i64 5, .int .i64 0, .int .i64 5, .string ⟨#[]⟩, .slice (some ⟨w3.heap.size + 1, 0, none⟩) 1 1, .int .i64 5, .int .i64 1, .int .i64 0, .string ⟨#[116, 51]⟩, .slice none 0 0, .int .i64 0, .int .i64 0] 67)).alloc (.cells #[.int .i64 2, .string ⟨#[]⟩, .slice (some ⟨w3.heap.size, 0, none⟩) 2 2, .int .i64 5, .int .i64 0] 67)) (.slice (some (a.add (i * 5))) (L - i) (sc - i)) (L - i) X2 by rw [← hX2, show a.add (i * 5) = ⟨a.block, a.off + i * 5, none⟩ by unfold Addr.add; rw [if_neg (by omega)]]; exact (rowIn_drop (m := L - i) (c' := sc - i) HSS.out.2.1 hus1 (by omega)).keepB q39) (And.intro (show X2.length = (L - i) * 5 by rw [← hX2, flatSp_len _ _ (by rw [List.length_drop, List.length_drop, hus1]), List.length_drop, HS.out.2.2]) (show ∀ u ∈ X2, u.oneCell' = true from fun u hu => by rw [← hX2, ← flatSp_drop _ _ _ hus1] at hu; exact HSS.out.2.2.1 u (List.mem_of_mem_drop hu))))
    have HZ := Lib.hid (And.intro q39 (And.intro hwX (And.intro hX1 (And.intro hX2 hus1))))
    have hcL : L ≤ sc := HC.out.1
    have hcm : sc ≤ 9223372036854775807 := HC.out.2
    have hiI : (i : Int) ≤ (L : Int) := by omega
    have hi0I : (0 : Int) ≤ (i : Int) := by omega
    have hisc : (i : Int) ≤ (sc : Int) := by omega
    clear q39 hwX oX hX1 hX2 hus1
    go_wp2_with fail
    generalize ((((w3.alloc (.cells #[.string ⟨#[112, 108, 97, 116, 101]⟩, .int .i64 0, .int .i64 0, .string ⟨#[112, 108, 97, 116, 101]⟩, .int .i64 7, .int .i64 0] 39)).alloc (.cells #[.string ⟨#[110, 111, 110, 101]⟩, .int .i64 0, .int .i64 0] 39)).alloc (.cells #[.int .i64 2, .string ⟨#[]⟩, .slice (some ⟨w3.heap.size, 0, none⟩) 2 2, .int .i64 5, .int .i64 0, .int .i64 5, .string ⟨#[]⟩, .slice (some ⟨w3.heap.size + 1, 0, none⟩) 1 1, .int .i64 5, .int .i64 1, .int .i64 0, .string ⟨#[116, 51]⟩, .slice none 0 0, .int .i64 0, .int .i64 0] 67)).alloc (.cells #[.int .i64 2, .string ⟨#[]⟩, .slice (some ⟨w3.heap.size, 0, none⟩) 2 2, .int .i64 5, .int .i64 0] 67)) = w9 at *
    generalize hHH : w3.heap.size = HH at *
    generalize hH3 : HH + 1 + 1 + 1 = H3 at *
    replace hHH := Lib.hid hHH
    replace hH3 := Lib.hid hH3
    by_cases hci : i = sc
    · subst hci
      have hLi : L - i = 0 := by omega
      have hX20 : X2 = [] := by have h := hR2.out.2.1; rw [hLi, Nat.zero_mul] at h; exact List.length_eq_zero_iff.1 h
      replace hLi := Lib.hid hLi
      replace hX20 := Lib.hid hX20
      refine wp_region_noPanic ?_
      refine wp_region_fork (S := fun w' => w'.cell? ⟨H3, 0, none⟩ = some (.int .i64 2) ∧ w'.cell? ⟨H3, 1, none⟩ = some (.string ⟨#[]⟩) ∧ w'.cell? ⟨H3, 2, none⟩ = some (.slice (some ⟨HH, 0, none⟩) 2 2) ∧ w'.cell? ⟨H3, 3, none⟩ = some (.int .i64 5) ∧ w'.cell? ⟨H3, 4, none⟩ = some (.int .i64 0) ∧ B w9 w') 6 (.step 0 3 (.step 1 3 (.step 2 3 (.step 4 0 (.step 7 3 (.step 8 3 (.step 9 3 (.fork 3 (.step 5 2 (.step 6 4 (.step 10 4 (.step 11 3 (.done))))) 5 (.step 3 2 (.step 6 4 (.step 10 4 (.step 11 3 (.done))))))))))))) [0, 0, 3, 4, 0, 16, 40, 0, 0, 384, 576, 2047] [0, 0, 3, 4, 0, 16, 40, 0, 0, 384, 576, 1153] [0, 0, 0, 0, 3184, 0, 0, 0, 0, 0, 0, 0] (by kernel_rfl) (by kernel_rfl) (fun _ _ _ _ _ h => h) ?_ (fun hH => ?_)
      · exact ⟨(B.refl w9).drew.keep k0x, (B.refl w9).drew.keep k1x, (B.refl w9).drew.keep k2x, (B.refl w9).drew.keep k3x, (B.refl w9).drew.keep k4x, (B.refl w9).drew⟩
      refine wpSeqF_free (d := 55) (v := ?_) rfl rfl (by kernel_rfl) (fun w => ?_) ?_
      rotate_left
      · go_simp <;> with_reducible rfl
      try dsimp only [List.set_cons_zero, List.set_cons_succ]
      refine wpSeqF_free (d := 56) (v := ?_) rfl rfl (by kernel_rfl) (fun w => ?_) ?_
      rotate_left
      · go_simp <;> with_reducible rfl
      try dsimp only [List.set_cons_zero, List.set_cons_succ]
      refine wpSeqF_free (d := 57) (v := ?_) rfl rfl (by kernel_rfl) (fun w => ?_) ?_
      rotate_left
      · go_simp <;> with_reducible rfl
      try dsimp only [List.set_cons_zero, List.set_cons_succ]
      refine wpSeqF_take (d := 59) (v := ?_) rfl rfl (by kernel_rfl) (fun w hS => ?_) ?_
      rotate_left
      · go_simp <;> with_reducible rfl
      try dsimp only [List.set_cons_zero, List.set_cons_succ]
      refine wpSeqF_free (d := 62) (v := ?_) rfl rfl (by kernel_rfl) (fun w => ?_) ?_
      rotate_left
      · go_simp <;> with_reducible rfl
      try dsimp only [List.set_cons_zero, List.set_cons_succ]
      refine wpSeqF_free (d := 63) (v := ?_) rfl rfl (by kernel_rfl) (fun w => ?_) ?_
      rotate_left
      · go_simp <;> with_reducible rfl
      try dsimp only [List.set_cons_zero, List.set_cons_succ]
      refine wpSeqF_free (d := 64) (v := ?_) rfl rfl (by kernel_rfl) (fun w => ?_) ?_
      rotate_left
      · go_simp <;> with_reducible rfl
      try dsimp only [List.set_cons_zero, List.set_cons_succ]
      refine wpSeqF_fork rfl rfl (by kernel_rfl) (by kernel_rfl) (fun K hK => ?_) (fun K hK => ?_)
      · refine wp_append_in _ _ 60 rfl w9.heap.size 67 i0 _ 5 64 Tryz.underlying60 hi0 hz0 hz1 hz2 rfl (by omega) (.slice none 0 0) 0 [] rfl (World.ownsRow_nil _ _ _ _) (.slice (some a) i i) rfl i X1 (hR1.out.1.keepB hH.2.2.2.2.2) hR1.out.2.1 hR1.out.2.2 (by unfold maxLen; omega) (by omega) hH.2.2.2.2.2.below.size ?_
        intro oA cA wA hownA hgrowA
        simp only [Nat.zero_add, List.nil_append] at hownA ⊢
        have hBA : B (w9.drew) wA := (B.refl _).grownBy hgrowA (fun _ h => by cases h)
        clear hgrowA
        refine hK.out _ _ ?_ (fun hH => ?_)
        · exact ⟨hBA.keep hH.1, hBA.keep hH.2.1, hBA.keep hH.2.2.1, hBA.keep hH.2.2.2.1, hBA.keep hH.2.2.2.2.1, hH.2.2.2.2.2.trans hBA⟩
        clear hK
        refine wpSeqF_call rfl (by kernel_rfl) (fun K hK => ?_)
        go_simp
        refine hK.out _ _ ?_ (fun hH => ?_)
        · exact ⟨((B.refl _).alloc _ _).keep hH.1, ((B.refl _).alloc _ _).keep hH.2.1, ((B.refl _).alloc _ _).keep hH.2.2.1, ((B.refl _).alloc _ _).keep hH.2.2.2.1, ((B.refl _).alloc _ _).keep hH.2.2.2.2.1, hH.2.2.2.2.2.alloc _ _⟩
        clear hK
        refine wpSeqF_gate rfl (by kernel_rfl) (fun K hK => ?_)
        refine wp_append_lies _ _ _ 60 rfl w9.heap.size 67 i0 _ 5 64 Tryz.underlying60 hi0 hz0 hz1 hz2 rfl (by omega) (.slice oA i cA) i X1 rfl (row_keep hownA ((B.refl wA).alloc #[.int .i64 2, .string ⟨#[]⟩, .slice (some ⟨HH, 0, none⟩) 2 2, .int .i64 5, .int .i64 0] 67)) ⟨wA.heap.size, 0, none⟩ 1 1 [.int .i64 2, .string ⟨#[]⟩, .slice (some ⟨HH, 0, none⟩) 2 2, .int .i64 5, .int .i64 0] rfl rfl (newest rfl) (fun u hu => by simp only [List.mem_cons, List.not_mem_nil, or_false] at hu; rcases hu with rfl | rfl | rfl | rfl | rfl <;> rfl) (by omega) (by unfold maxLen; omega) (by omega) hH.2.2.2.2.2.below.size _ rfl ?_
        intro g6 c6 w6 hown6 hgrow6 _ _
        have hB6 : B w9 w6 := hH.2.2.2.2.2.grownBy hgrow6 (fun x hx => ((row_keep hownA ((B.refl wA).alloc #[.int .i64 2, .string ⟨#[]⟩, .slice (some ⟨HH, 0, none⟩) 2 2, .int .i64 5, .int .i64 0] 67)).lt x hx).1)
        clear hgrow6
        try simp only [Act.put, List.setIfInBounds_toArray, List.set_cons_zero, List.set_cons_succ]
        refine hK.out _ _ ?_
        clear hK
        refine wpSeqF_gate rfl (by kernel_rfl) (fun K hK => ?_)
        refine wp_append_in _ _ 60 rfl w9.heap.size 67 i0 _ 5 64 Tryz.underlying60 hi0 hz0 hz1 hz2 rfl (by omega) (.slice (some ⟨g6, 0, none⟩) (i + 1) c6) (i + 1) (X1 ++ [.int .i64 2, .string ⟨#[]⟩, .slice (some ⟨HH, 0, none⟩) 2 2, .int .i64 5, .int .i64 0]) rfl hown6 _ rfl 0 [] (rowIn0 _ _ _) rfl (fun u hu => by simp at hu) (by unfold maxLen; omega) (by omega) hB6.below.size ?_
        intro oT cT wT hownT hgrowT
        simp only [Nat.add_zero, List.append_nil] at hownT ⊢
        have hBT : B w9 wT := hB6.grownBy hgrowT (fun x hx => (hown6.lt x hx).1)
        clear hgrowT
        try simp only [Act.put, List.setIfInBounds_toArray, List.set_cons_zero, List.set_cons_succ]
        refine hK.out _ _ ?_
        clear hK
        refine wpSeqF_free (d := 10) (v := ?_) rfl rfl (by kernel_rfl) (fun w => ?_) ?_
        rotate_left
        · go_simp <;> with_reducible rfl
        try dsimp only [List.set_cons_zero, List.set_cons_succ]
        refine wpSeqF_done ?_
        refine NoPanic.normal ?_
        have hTO : wT.ownsRow w9.heap.size 67 5 (.slice oT (i + 1) cT) (i + 1) (flatSp ((seatSteps wlD ps).take i ++ [wlX 0] ++ (seatSteps wlD ps).drop i) (us.take i ++ [.slice (some ⟨HH, 0, none⟩) 2 2] ++ us.drop i)) := by
          have hl9 := HZ.out.2.2.2.2
          rw [flatSp_app _ _ _ _ (by rw [List.length_append, List.length_append, List.length_take, List.length_take, hl9]; rfl) (by rw [List.length_drop, List.length_drop, hl9]), flatSp_snoc _ _ _ _ (by rw [List.length_take, List.length_take, hl9]), HZ.out.2.2.1, HZ.out.2.2.2.1, hX20.out, List.append_nil]
          exact hownT
        have hIs := sps_own (by have hl9 := HZ.out.2.2.2.2; simp only [List.length_append, List.length_take, List.length_drop, List.length_cons, List.length_nil, hl9]) hTO (by simp only [List.length_append, List.length_take, List.length_drop, List.length_cons, List.length_nil, HS.out.2.2]; omega) (ins_wps HZ.out.2.2.2.2 (by rw [HS.out.2.2]; exact hib.2) (fun j u s h1 h2 => (HSS.out.2.2.2.1 j u s h1 h2).keepB (HZ.out.1.trans hBT)) (HZ.out.2.1.keepB hBT))
        have hq9 : B w2 wT := HSS.out.2.2.2.2.trans (HZ.out.1.trans hBT)
        have cc := cO wT hq9 _ _ hIs (ins_spsI HS.out.2.1 (wlX_ok 0))
        have hk9 : opsX wlD ((seatSteps wlD ps).take i ++ [wlX 0] ++ (seatSteps wlD ps).drop i) = .error (i, 26) := HS.out.1 i 0 ⟨hib.1, by rw [HS.out.2.2]; exact hib.2⟩
        have HF := Lib.hid (And.intro hq9 hk9)
        clear hTO hIs hq9 hk9 hownT hBT hown6 hB6 hownA hBA hH cO
        go_wp2_with fail
        refine Calls.mono cc ?_
        rintro e wE hR9
        obtain ⟨rfl, qE⟩ := hR9.erd HF.out.2
        have HG := Lib.hid (HP.out.2.trans (HF.out.1.trans qE))
        clear hR9 qE cc
        go_wp2_with fail
        try go_quiet (fail)
        try go_wp2
        try simp only [Exit.inBlock, Exit.then]
        go_ret
        exact ⟨by first | rfl | simp, HG.out⟩
      · go_simp
        refine hK.out _ _ ?_ (fun hH => ?_)
        · exact ⟨((B.refl _).alloc _ _).keep hH.1, ((B.refl _).alloc _ _).keep hH.2.1, ((B.refl _).alloc _ _).keep hH.2.2.1, ((B.refl _).alloc _ _).keep hH.2.2.2.1, ((B.refl _).alloc _ _).keep hH.2.2.2.2.1, hH.2.2.2.2.2.alloc _ _⟩
        clear hK
        refine wpSeqF_call rfl (by kernel_rfl) (fun K hK => ?_)
        refine wp_append_in _ _ 60 rfl w9.heap.size 67 i0 _ 5 64 Tryz.underlying60 hi0 hz0 hz1 hz2 rfl (by omega) (.slice none 0 0) 0 [] rfl (World.ownsRow_nil _ _ _ _) (.slice (some a) i i) rfl i X1 (hR1.out.1.keepB hH.2.2.2.2.2) hR1.out.2.1 hR1.out.2.2 (by unfold maxLen; omega) (by omega) hH.2.2.2.2.2.below.size ?_
        intro oA cA wA hownA hgrowA
        simp only [Nat.zero_add, List.nil_append] at hownA ⊢
        have hBA : B (w9.drew.alloc (.cells #[.int .i64 2, .string ⟨#[]⟩, .slice (some ⟨HH, 0, none⟩) 2 2, .int .i64 5, .int .i64 0] 67)) wA := (B.refl _).grownBy hgrowA (fun _ h => by cases h)
        clear hgrowA
        refine hK.out _ _ ?_ (fun hH => ?_)
        · exact ⟨hBA.keep hH.1, hBA.keep hH.2.1, hBA.keep hH.2.2.1, hBA.keep hH.2.2.2.1, hBA.keep hH.2.2.2.2.1, hH.2.2.2.2.2.trans hBA⟩
        clear hK
        refine wpSeqF_gate rfl (by kernel_rfl) (fun K hK => ?_)
        refine wp_append_lies _ _ _ 60 rfl w9.heap.size 67 i0 _ 5 64 Tryz.underlying60 hi0 hz0 hz1 hz2 rfl (by omega) (.slice oA i cA) i X1 rfl hownA ⟨w9.heap.size, 0, none⟩ 1 1 [.int .i64 2, .string ⟨#[]⟩, .slice (some ⟨HH, 0, none⟩) 2 2, .int .i64 5, .int .i64 0] rfl rfl (fun j u hj => hBA.keep (newest (w := w9.drew) rfl j u hj)) (fun u hu => by simp only [List.mem_cons, List.not_mem_nil, or_false] at hu; rcases hu with rfl | rfl | rfl | rfl | rfl <;> rfl) (by omega) (by unfold maxLen; omega) (by omega) hH.2.2.2.2.2.below.size _ rfl ?_
        intro g6 c6 w6 hown6 hgrow6 _ _
        have hB6 : B w9 w6 := hH.2.2.2.2.2.grownBy hgrow6 (fun x hx => (hownA.lt x hx).1)
        clear hgrow6
        try simp only [Act.put, List.setIfInBounds_toArray, List.set_cons_zero, List.set_cons_succ]
        refine hK.out _ _ ?_
        clear hK
        refine wpSeqF_gate rfl (by kernel_rfl) (fun K hK => ?_)
        refine wp_append_in _ _ 60 rfl w9.heap.size 67 i0 _ 5 64 Tryz.underlying60 hi0 hz0 hz1 hz2 rfl (by omega) (.slice (some ⟨g6, 0, none⟩) (i + 1) c6) (i + 1) (X1 ++ [.int .i64 2, .string ⟨#[]⟩, .slice (some ⟨HH, 0, none⟩) 2 2, .int .i64 5, .int .i64 0]) rfl hown6 _ rfl 0 [] (rowIn0 _ _ _) rfl (fun u hu => by simp at hu) (by unfold maxLen; omega) (by omega) hB6.below.size ?_
        intro oT cT wT hownT hgrowT
        simp only [Nat.add_zero, List.append_nil] at hownT ⊢
        have hBT : B w9 wT := hB6.grownBy hgrowT (fun x hx => (hown6.lt x hx).1)
        clear hgrowT
        try simp only [Act.put, List.setIfInBounds_toArray, List.set_cons_zero, List.set_cons_succ]
        refine hK.out _ _ ?_
        clear hK
        refine wpSeqF_free (d := 10) (v := ?_) rfl rfl (by kernel_rfl) (fun w => ?_) ?_
        rotate_left
        · go_simp <;> with_reducible rfl
        try dsimp only [List.set_cons_zero, List.set_cons_succ]
        refine wpSeqF_done ?_
        refine NoPanic.normal ?_
        have hTO : wT.ownsRow w9.heap.size 67 5 (.slice oT (i + 1) cT) (i + 1) (flatSp ((seatSteps wlD ps).take i ++ [wlX 0] ++ (seatSteps wlD ps).drop i) (us.take i ++ [.slice (some ⟨HH, 0, none⟩) 2 2] ++ us.drop i)) := by
          have hl9 := HZ.out.2.2.2.2
          rw [flatSp_app _ _ _ _ (by rw [List.length_append, List.length_append, List.length_take, List.length_take, hl9]; rfl) (by rw [List.length_drop, List.length_drop, hl9]), flatSp_snoc _ _ _ _ (by rw [List.length_take, List.length_take, hl9]), HZ.out.2.2.1, HZ.out.2.2.2.1, hX20.out, List.append_nil]
          exact hownT
        have hIs := sps_own (by have hl9 := HZ.out.2.2.2.2; simp only [List.length_append, List.length_take, List.length_drop, List.length_cons, List.length_nil, hl9]) hTO (by simp only [List.length_append, List.length_take, List.length_drop, List.length_cons, List.length_nil, HS.out.2.2]; omega) (ins_wps HZ.out.2.2.2.2 (by rw [HS.out.2.2]; exact hib.2) (fun j u s h1 h2 => (HSS.out.2.2.2.1 j u s h1 h2).keepB (HZ.out.1.trans hBT)) (HZ.out.2.1.keepB hBT))
        have hq9 : B w2 wT := HSS.out.2.2.2.2.trans (HZ.out.1.trans hBT)
        have cc := cO wT hq9 _ _ hIs (ins_spsI HS.out.2.1 (wlX_ok 0))
        have hk9 : opsX wlD ((seatSteps wlD ps).take i ++ [wlX 0] ++ (seatSteps wlD ps).drop i) = .error (i, 26) := HS.out.1 i 0 ⟨hib.1, by rw [HS.out.2.2]; exact hib.2⟩
        have HF := Lib.hid (And.intro hq9 hk9)
        clear hTO hIs hq9 hk9 hownT hBT hown6 hB6 hownA hBA hH cO
        go_wp2_with fail
        refine Calls.mono cc ?_
        rintro e wE hR9
        obtain ⟨rfl, qE⟩ := hR9.erd HF.out.2
        have HG := Lib.hid (HP.out.2.trans (HF.out.1.trans qE))
        clear hR9 qE cc
        go_wp2_with fail
        try go_quiet (fail)
        try go_wp2
        try simp only [Exit.inBlock, Exit.then]
        go_ret
        exact ⟨by first | rfl | simp, HG.out⟩
    · have hci' : ¬ sc = i := fun e => hci e.symm
      refine wp_region_noPanic ?_
      refine wp_region_fork (S := fun w' => w'.cell? ⟨H3, 0, none⟩ = some (.int .i64 2) ∧ w'.cell? ⟨H3, 1, none⟩ = some (.string ⟨#[]⟩) ∧ w'.cell? ⟨H3, 2, none⟩ = some (.slice (some ⟨HH, 0, none⟩) 2 2) ∧ w'.cell? ⟨H3, 3, none⟩ = some (.int .i64 5) ∧ w'.cell? ⟨H3, 4, none⟩ = some (.int .i64 0) ∧ B w9 w') 6 (.step 0 3 (.step 1 3 (.step 2 3 (.step 4 0 (.step 7 3 (.step 8 3 (.step 9 3 (.fork 3 (.step 5 2 (.step 6 4 (.step 10 4 (.step 11 3 (.done))))) 5 (.step 3 2 (.step 6 4 (.step 10 4 (.step 11 3 (.done))))))))))))) [0, 0, 3, 4, 0, 16, 40, 0, 0, 384, 576, 2047] [0, 0, 3, 4, 0, 16, 40, 0, 0, 384, 576, 1153] [0, 0, 0, 0, 3184, 0, 0, 0, 0, 0, 0, 0] (by kernel_rfl) (by kernel_rfl) (fun _ _ _ _ _ h => h) ?_ (fun hH => ?_)
      · exact ⟨(B.refl w9).drew.keep k0x, (B.refl w9).drew.keep k1x, (B.refl w9).drew.keep k2x, (B.refl w9).drew.keep k3x, (B.refl w9).drew.keep k4x, (B.refl w9).drew⟩
      refine wpSeqF_free (d := 55) (v := ?_) rfl rfl (by kernel_rfl) (fun w => ?_) ?_
      rotate_left
      · go_simp <;> with_reducible rfl
      try dsimp only [List.set_cons_zero, List.set_cons_succ]
      refine wpSeqF_free (d := 56) (v := ?_) rfl rfl (by kernel_rfl) (fun w => ?_) ?_
      rotate_left
      · go_simp <;> with_reducible rfl
      try dsimp only [List.set_cons_zero, List.set_cons_succ]
      refine wpSeqF_free (d := 57) (v := ?_) rfl rfl (by kernel_rfl) (fun w => ?_) ?_
      rotate_left
      · go_simp <;> with_reducible rfl
      try dsimp only [List.set_cons_zero, List.set_cons_succ]
      refine wpSeqF_take (d := 59) (v := ?_) rfl rfl (by kernel_rfl) (fun w hS => ?_) ?_
      rotate_left
      · go_simp <;> with_reducible rfl
      try dsimp only [List.set_cons_zero, List.set_cons_succ]
      refine wpSeqF_free (d := 62) (v := ?_) rfl rfl (by kernel_rfl) (fun w => ?_) ?_
      rotate_left
      · go_simp <;> with_reducible rfl
      try dsimp only [List.set_cons_zero, List.set_cons_succ]
      refine wpSeqF_free (d := 63) (v := ?_) rfl rfl (by kernel_rfl) (fun w => ?_) ?_
      rotate_left
      · go_simp <;> with_reducible rfl
      try dsimp only [List.set_cons_zero, List.set_cons_succ]
      refine wpSeqF_free (d := 64) (v := ?_) rfl rfl (by kernel_rfl) (fun w => ?_) ?_
      rotate_left
      · go_simp <;> with_reducible rfl
      try dsimp only [List.set_cons_zero, List.set_cons_succ]
      refine wpSeqF_fork rfl rfl (by kernel_rfl) (by kernel_rfl) (fun K hK => ?_) (fun K hK => ?_)
      · refine wp_append_in _ _ 60 rfl w9.heap.size 67 i0 _ 5 64 Tryz.underlying60 hi0 hz0 hz1 hz2 rfl (by omega) (.slice none 0 0) 0 [] rfl (World.ownsRow_nil _ _ _ _) (.slice (some a) i sc) rfl i X1 (hR1.out.1.keepB hH.2.2.2.2.2) hR1.out.2.1 hR1.out.2.2 (by unfold maxLen; omega) (by omega) hH.2.2.2.2.2.below.size ?_
        intro oA cA wA hownA hgrowA
        simp only [Nat.zero_add, List.nil_append] at hownA ⊢
        have hBA : B (w9.drew) wA := (B.refl _).grownBy hgrowA (fun _ h => by cases h)
        clear hgrowA
        refine hK.out _ _ ?_ (fun hH => ?_)
        · exact ⟨hBA.keep hH.1, hBA.keep hH.2.1, hBA.keep hH.2.2.1, hBA.keep hH.2.2.2.1, hBA.keep hH.2.2.2.2.1, hH.2.2.2.2.2.trans hBA⟩
        clear hK
        refine wpSeqF_call rfl (by kernel_rfl) (fun K hK => ?_)
        go_simp
        refine hK.out _ _ ?_ (fun hH => ?_)
        · exact ⟨((B.refl _).alloc _ _).keep hH.1, ((B.refl _).alloc _ _).keep hH.2.1, ((B.refl _).alloc _ _).keep hH.2.2.1, ((B.refl _).alloc _ _).keep hH.2.2.2.1, ((B.refl _).alloc _ _).keep hH.2.2.2.2.1, hH.2.2.2.2.2.alloc _ _⟩
        clear hK
        refine wpSeqF_gate rfl (by kernel_rfl) (fun K hK => ?_)
        refine wp_append_lies _ _ _ 60 rfl w9.heap.size 67 i0 _ 5 64 Tryz.underlying60 hi0 hz0 hz1 hz2 rfl (by omega) (.slice oA i cA) i X1 rfl (row_keep hownA ((B.refl wA).alloc #[.int .i64 2, .string ⟨#[]⟩, .slice (some ⟨HH, 0, none⟩) 2 2, .int .i64 5, .int .i64 0] 67)) ⟨wA.heap.size, 0, none⟩ 1 1 [.int .i64 2, .string ⟨#[]⟩, .slice (some ⟨HH, 0, none⟩) 2 2, .int .i64 5, .int .i64 0] rfl rfl (newest rfl) (fun u hu => by simp only [List.mem_cons, List.not_mem_nil, or_false] at hu; rcases hu with rfl | rfl | rfl | rfl | rfl <;> rfl) (by omega) (by unfold maxLen; omega) (by omega) hH.2.2.2.2.2.below.size _ rfl ?_
        intro g6 c6 w6 hown6 hgrow6 _ _
        have hB6 : B w9 w6 := hH.2.2.2.2.2.grownBy hgrow6 (fun x hx => ((row_keep hownA ((B.refl wA).alloc #[.int .i64 2, .string ⟨#[]⟩, .slice (some ⟨HH, 0, none⟩) 2 2, .int .i64 5, .int .i64 0] 67)).lt x hx).1)
        clear hgrow6
        try simp only [Act.put, List.setIfInBounds_toArray, List.set_cons_zero, List.set_cons_succ]
        refine hK.out _ _ ?_
        clear hK
        refine wpSeqF_gate rfl (by kernel_rfl) (fun K hK => ?_)
        refine wp_append_in _ _ 60 rfl w9.heap.size 67 i0 _ 5 64 Tryz.underlying60 hi0 hz0 hz1 hz2 rfl (by omega) (.slice (some ⟨g6, 0, none⟩) (i + 1) c6) (i + 1) (X1 ++ [.int .i64 2, .string ⟨#[]⟩, .slice (some ⟨HH, 0, none⟩) 2 2, .int .i64 5, .int .i64 0]) rfl hown6 _ rfl (L - i) X2 (hR2.out.1.keepB hB6) hR2.out.2.1 hR2.out.2.2 (by unfold maxLen; omega) (by omega) hB6.below.size ?_
        intro oT cT wT hownT hgrowT
        skip
        have hBT : B w9 wT := hB6.grownBy hgrowT (fun x hx => (hown6.lt x hx).1)
        clear hgrowT
        try simp only [Act.put, List.setIfInBounds_toArray, List.set_cons_zero, List.set_cons_succ]
        refine hK.out _ _ ?_
        clear hK
        refine wpSeqF_free (d := 10) (v := ?_) rfl rfl (by kernel_rfl) (fun w => ?_) ?_
        rotate_left
        · go_simp <;> with_reducible rfl
        try dsimp only [List.set_cons_zero, List.set_cons_succ]
        refine wpSeqF_done ?_
        refine NoPanic.normal ?_
        have hTO : wT.ownsRow w9.heap.size 67 5 (.slice oT (i + 1 + (L - i)) cT) (i + 1 + (L - i)) (flatSp ((seatSteps wlD ps).take i ++ [wlX 0] ++ (seatSteps wlD ps).drop i) (us.take i ++ [.slice (some ⟨HH, 0, none⟩) 2 2] ++ us.drop i)) := by
          have hl9 := HZ.out.2.2.2.2
          rw [flatSp_app _ _ _ _ (by rw [List.length_append, List.length_append, List.length_take, List.length_take, hl9]; rfl) (by rw [List.length_drop, List.length_drop, hl9]), flatSp_snoc _ _ _ _ (by rw [List.length_take, List.length_take, hl9]), HZ.out.2.2.1, HZ.out.2.2.2.1]
          exact hownT
        have hIs := sps_own (by have hl9 := HZ.out.2.2.2.2; simp only [List.length_append, List.length_take, List.length_drop, List.length_cons, List.length_nil, hl9]) hTO (by simp only [List.length_append, List.length_take, List.length_drop, List.length_cons, List.length_nil, HS.out.2.2]; omega) (ins_wps HZ.out.2.2.2.2 (by rw [HS.out.2.2]; exact hib.2) (fun j u s h1 h2 => (HSS.out.2.2.2.1 j u s h1 h2).keepB (HZ.out.1.trans hBT)) (HZ.out.2.1.keepB hBT))
        have hq9 : B w2 wT := HSS.out.2.2.2.2.trans (HZ.out.1.trans hBT)
        have cc := cO wT hq9 _ _ hIs (ins_spsI HS.out.2.1 (wlX_ok 0))
        have hk9 : opsX wlD ((seatSteps wlD ps).take i ++ [wlX 0] ++ (seatSteps wlD ps).drop i) = .error (i, 26) := HS.out.1 i 0 ⟨hib.1, by rw [HS.out.2.2]; exact hib.2⟩
        have HF := Lib.hid (And.intro hq9 hk9)
        clear hTO hIs hq9 hk9 hownT hBT hown6 hB6 hownA hBA hH cO
        go_wp2_with fail
        refine Calls.mono cc ?_
        rintro e wE hR9
        obtain ⟨rfl, qE⟩ := hR9.erd HF.out.2
        have HG := Lib.hid (HP.out.2.trans (HF.out.1.trans qE))
        clear hR9 qE cc
        go_wp2_with fail
        try go_quiet (fail)
        try go_wp2
        try simp only [Exit.inBlock, Exit.then]
        go_ret
        exact ⟨by first | rfl | simp, HG.out⟩
      · go_simp
        refine hK.out _ _ ?_ (fun hH => ?_)
        · exact ⟨((B.refl _).alloc _ _).keep hH.1, ((B.refl _).alloc _ _).keep hH.2.1, ((B.refl _).alloc _ _).keep hH.2.2.1, ((B.refl _).alloc _ _).keep hH.2.2.2.1, ((B.refl _).alloc _ _).keep hH.2.2.2.2.1, hH.2.2.2.2.2.alloc _ _⟩
        clear hK
        refine wpSeqF_call rfl (by kernel_rfl) (fun K hK => ?_)
        refine wp_append_in _ _ 60 rfl w9.heap.size 67 i0 _ 5 64 Tryz.underlying60 hi0 hz0 hz1 hz2 rfl (by omega) (.slice none 0 0) 0 [] rfl (World.ownsRow_nil _ _ _ _) (.slice (some a) i sc) rfl i X1 (hR1.out.1.keepB hH.2.2.2.2.2) hR1.out.2.1 hR1.out.2.2 (by unfold maxLen; omega) (by omega) hH.2.2.2.2.2.below.size ?_
        intro oA cA wA hownA hgrowA
        simp only [Nat.zero_add, List.nil_append] at hownA ⊢
        have hBA : B (w9.drew.alloc (.cells #[.int .i64 2, .string ⟨#[]⟩, .slice (some ⟨HH, 0, none⟩) 2 2, .int .i64 5, .int .i64 0] 67)) wA := (B.refl _).grownBy hgrowA (fun _ h => by cases h)
        clear hgrowA
        refine hK.out _ _ ?_ (fun hH => ?_)
        · exact ⟨hBA.keep hH.1, hBA.keep hH.2.1, hBA.keep hH.2.2.1, hBA.keep hH.2.2.2.1, hBA.keep hH.2.2.2.2.1, hH.2.2.2.2.2.trans hBA⟩
        clear hK
        refine wpSeqF_gate rfl (by kernel_rfl) (fun K hK => ?_)
        refine wp_append_lies _ _ _ 60 rfl w9.heap.size 67 i0 _ 5 64 Tryz.underlying60 hi0 hz0 hz1 hz2 rfl (by omega) (.slice oA i cA) i X1 rfl hownA ⟨w9.heap.size, 0, none⟩ 1 1 [.int .i64 2, .string ⟨#[]⟩, .slice (some ⟨HH, 0, none⟩) 2 2, .int .i64 5, .int .i64 0] rfl rfl (fun j u hj => hBA.keep (newest (w := w9.drew) rfl j u hj)) (fun u hu => by simp only [List.mem_cons, List.not_mem_nil, or_false] at hu; rcases hu with rfl | rfl | rfl | rfl | rfl <;> rfl) (by omega) (by unfold maxLen; omega) (by omega) hH.2.2.2.2.2.below.size _ rfl ?_
        intro g6 c6 w6 hown6 hgrow6 _ _
        have hB6 : B w9 w6 := hH.2.2.2.2.2.grownBy hgrow6 (fun x hx => (hownA.lt x hx).1)
        clear hgrow6
        try simp only [Act.put, List.setIfInBounds_toArray, List.set_cons_zero, List.set_cons_succ]
        refine hK.out _ _ ?_
        clear hK
        refine wpSeqF_gate rfl (by kernel_rfl) (fun K hK => ?_)
        refine wp_append_in _ _ 60 rfl w9.heap.size 67 i0 _ 5 64 Tryz.underlying60 hi0 hz0 hz1 hz2 rfl (by omega) (.slice (some ⟨g6, 0, none⟩) (i + 1) c6) (i + 1) (X1 ++ [.int .i64 2, .string ⟨#[]⟩, .slice (some ⟨HH, 0, none⟩) 2 2, .int .i64 5, .int .i64 0]) rfl hown6 _ rfl (L - i) X2 (hR2.out.1.keepB hB6) hR2.out.2.1 hR2.out.2.2 (by unfold maxLen; omega) (by omega) hB6.below.size ?_
        intro oT cT wT hownT hgrowT
        skip
        have hBT : B w9 wT := hB6.grownBy hgrowT (fun x hx => (hown6.lt x hx).1)
        clear hgrowT
        try simp only [Act.put, List.setIfInBounds_toArray, List.set_cons_zero, List.set_cons_succ]
        refine hK.out _ _ ?_
        clear hK
        refine wpSeqF_free (d := 10) (v := ?_) rfl rfl (by kernel_rfl) (fun w => ?_) ?_
        rotate_left
        · go_simp <;> with_reducible rfl
        try dsimp only [List.set_cons_zero, List.set_cons_succ]
        refine wpSeqF_done ?_
        refine NoPanic.normal ?_
        have hTO : wT.ownsRow w9.heap.size 67 5 (.slice oT (i + 1 + (L - i)) cT) (i + 1 + (L - i)) (flatSp ((seatSteps wlD ps).take i ++ [wlX 0] ++ (seatSteps wlD ps).drop i) (us.take i ++ [.slice (some ⟨HH, 0, none⟩) 2 2] ++ us.drop i)) := by
          have hl9 := HZ.out.2.2.2.2
          rw [flatSp_app _ _ _ _ (by rw [List.length_append, List.length_append, List.length_take, List.length_take, hl9]; rfl) (by rw [List.length_drop, List.length_drop, hl9]), flatSp_snoc _ _ _ _ (by rw [List.length_take, List.length_take, hl9]), HZ.out.2.2.1, HZ.out.2.2.2.1]
          exact hownT
        have hIs := sps_own (by have hl9 := HZ.out.2.2.2.2; simp only [List.length_append, List.length_take, List.length_drop, List.length_cons, List.length_nil, hl9]) hTO (by simp only [List.length_append, List.length_take, List.length_drop, List.length_cons, List.length_nil, HS.out.2.2]; omega) (ins_wps HZ.out.2.2.2.2 (by rw [HS.out.2.2]; exact hib.2) (fun j u s h1 h2 => (HSS.out.2.2.2.1 j u s h1 h2).keepB (HZ.out.1.trans hBT)) (HZ.out.2.1.keepB hBT))
        have hq9 : B w2 wT := HSS.out.2.2.2.2.trans (HZ.out.1.trans hBT)
        have cc := cO wT hq9 _ _ hIs (ins_spsI HS.out.2.1 (wlX_ok 0))
        have hk9 : opsX wlD ((seatSteps wlD ps).take i ++ [wlX 0] ++ (seatSteps wlD ps).drop i) = .error (i, 26) := HS.out.1 i 0 ⟨hib.1, by rw [HS.out.2.2]; exact hib.2⟩
        have HF := Lib.hid (And.intro hq9 hk9)
        clear hTO hIs hq9 hk9 hownT hBT hown6 hB6 hownA hBA hH cO
        go_wp2_with fail
        refine Calls.mono cc ?_
        rintro e wE hR9
        obtain ⟨rfl, qE⟩ := hR9.erd HF.out.2
        have HG := Lib.hid (HP.out.2.trans (HF.out.1.trans qE))
        clear hR9 qE cc
        go_wp2_with fail
        try go_quiet (fail)
        try go_wp2
        try simp only [Exit.inBlock, Exit.then]
        go_ret
        exact ⟨by first | rfl | simp, HG.out⟩
  · have q39 : B w3 ((((w3.alloc (.cells #[.string ⟨#[112, 108, 97, 116, 101]⟩, .int .i64 0, .int .i64 0, .string ⟨#[112, 108, 97, 116, 101]⟩, .int .i64 7, .int .i64 0] 39)).alloc (.cells #[.string ⟨#[110, 111, 110, 101]⟩, .int .i64 0, .int .i64 0] 39)).alloc (.cells #[.int .i64 2, .string ⟨#[]⟩, .slice (some ⟨w3.heap.size, 0, none⟩) 2 2, .int .i64 5, .int .i64 0, .int .i64 5, .string ⟨#[]⟩, .slice (some ⟨w3.heap.size + 1, 0, none⟩) 1 1, .int .i64 5, .int .i64 1, .int .i64 0, .string ⟨#[116, 51]⟩, .slice none 0 0, .int .i64 0, .int .i64 0] 67)).alloc (.cells #[.int .i64 5, .string ⟨#[]⟩, .slice (some ⟨w3.heap.size + 1, 0, none⟩) 1 1, .int .i64 5, .int .i64 1] 67)) := ((((B.refl w3).alloc _ _).alloc _ _).alloc _ _).alloc _ _
    have hwX : IsWps ((((w3.alloc (.cells #[.string ⟨#[112, 108, 97, 116, 101]⟩, .int .i64 0, .int .i64 0, .string ⟨#[112, 108, 97, 116, 101]⟩, .int .i64 7, .int .i64 0] 39)).alloc (.cells #[.string ⟨#[110, 111, 110, 101]⟩, .int .i64 0, .int .i64 0] 39)).alloc (.cells #[.int .i64 2, .string ⟨#[]⟩, .slice (some ⟨w3.heap.size, 0, none⟩) 2 2, .int .i64 5, .int .i64 0, .int .i64 5, .string ⟨#[]⟩, .slice (some ⟨w3.heap.size + 1, 0, none⟩) 1 1, .int .i64 5, .int .i64 1, .int .i64 0, .string ⟨#[116, 51]⟩, .slice none 0 0, .int .i64 0, .int .i64 0] 67)).alloc (.cells #[.int .i64 5, .string ⟨#[]⟩, .slice (some ⟨w3.heap.size + 1, 0, none⟩) 1 1, .int .i64 5, .int .i64 1] 67)) (.slice (some ⟨w3.heap.size + 1, 0, none⟩) 1 1) (wlX 1).w := (by have := wps_lit (w3.alloc (.cells #[.string ⟨#[112, 108, 97, 116, 101]⟩, .int .i64 0, .int .i64 0, .string ⟨#[112, 108, 97, 116, 101]⟩, .int .i64 7, .int .i64 0] 39)) [⟨⟨#[110, 111, 110, 101]⟩, 0, 0⟩] (by simp); rw [show (w3.alloc (.cells #[.string ⟨#[112, 108, 97, 116, 101]⟩, .int .i64 0, .int .i64 0, .string ⟨#[112, 108, 97, 116, 101]⟩, .int .i64 7, .int .i64 0] 39)).heap.size = w3.heap.size + 1 by simp] at this; exact this.keepB (show B ((w3.alloc (.cells #[.string ⟨#[112, 108, 97, 116, 101]⟩, .int .i64 0, .int .i64 0, .string ⟨#[112, 108, 97, 116, 101]⟩, .int .i64 7, .int .i64 0] 39)).alloc (.cells #[.string ⟨#[110, 111, 110, 101]⟩, .int .i64 0, .int .i64 0] 39)) ((((w3.alloc (.cells #[.string ⟨#[112, 108, 97, 116, 101]⟩, .int .i64 0, .int .i64 0, .string ⟨#[112, 108, 97, 116, 101]⟩, .int .i64 7, .int .i64 0] 39)).alloc (.cells #[.string ⟨#[110, 111, 110, 101]⟩, .int .i64 0, .int .i64 0] 39)).alloc (.cells #[.int .i64 2, .string ⟨#[]⟩, .slice (some ⟨w3.heap.size, 0, none⟩) 2 2, .int .i64 5, .int .i64 0, .int .i64 5, .string ⟨#[]⟩, .slice (some ⟨w3.heap.size + 1, 0, none⟩) 1 1, .int .i64 5, .int .i64 1, .int .i64 0, .string ⟨#[116, 51]⟩, .slice none 0 0, .int .i64 0, .int .i64 0] 67)).alloc (.cells #[.int .i64 5, .string ⟨#[]⟩, .slice (some ⟨w3.heap.size + 1, 0, none⟩) 1 1, .int .i64 5, .int .i64 1] 67)) from ((B.refl _).alloc _ _).alloc _ _))
    have oX : ((((w3.alloc (.cells #[.string ⟨#[112, 108, 97, 116, 101]⟩, .int .i64 0, .int .i64 0, .string ⟨#[112, 108, 97, 116, 101]⟩, .int .i64 7, .int .i64 0] 39)).alloc (.cells #[.string ⟨#[110, 111, 110, 101]⟩, .int .i64 0, .int .i64 0] 39)).alloc (.cells #[.int .i64 2, .string ⟨#[]⟩, .slice (some ⟨w3.heap.size, 0, none⟩) 2 2, .int .i64 5, .int .i64 0, .int .i64 5, .string ⟨#[]⟩, .slice (some ⟨w3.heap.size + 1, 0, none⟩) 1 1, .int .i64 5, .int .i64 1, .int .i64 0, .string ⟨#[116, 51]⟩, .slice none 0 0, .int .i64 0, .int .i64 0] 67)).alloc (.cells #[.int .i64 5, .string ⟨#[]⟩, .slice (some ⟨w3.heap.size + 1, 0, none⟩) 1 1, .int .i64 5, .int .i64 1] 67)).heap[w3.heap.size + 1 + 1 + 1]? = some (.cells #[.int .i64 5, .string ⟨#[]⟩, .slice (some ⟨w3.heap.size + 1, 0, none⟩) 1 1, .int .i64 5, .int .i64 1] 67 (0, 0)) := by
      have := obj_new (((w3.alloc (.cells #[.string ⟨#[112, 108, 97, 116, 101]⟩, .int .i64 0, .int .i64 0, .string ⟨#[112, 108, 97, 116, 101]⟩, .int .i64 7, .int .i64 0] 39)).alloc (.cells #[.string ⟨#[110, 111, 110, 101]⟩, .int .i64 0, .int .i64 0] 39)).alloc (.cells #[.int .i64 2, .string ⟨#[]⟩, .slice (some ⟨w3.heap.size, 0, none⟩) 2 2, .int .i64 5, .int .i64 0, .int .i64 5, .string ⟨#[]⟩, .slice (some ⟨w3.heap.size + 1, 0, none⟩) 1 1, .int .i64 5, .int .i64 1, .int .i64 0, .string ⟨#[116, 51]⟩, .slice none 0 0, .int .i64 0, .int .i64 0] 67)) (.cells #[.int .i64 5, .string ⟨#[]⟩, .slice (some ⟨w3.heap.size + 1, 0, none⟩) 1 1, .int .i64 5, .int .i64 1] 67)
      rw [show (((w3.alloc (.cells #[.string ⟨#[112, 108, 97, 116, 101]⟩, .int .i64 0, .int .i64 0, .string ⟨#[112, 108, 97, 116, 101]⟩, .int .i64 7, .int .i64 0] 39)).alloc (.cells #[.string ⟨#[110, 111, 110, 101]⟩, .int .i64 0, .int .i64 0] 39)).alloc (.cells #[.int .i64 2, .string ⟨#[]⟩, .slice (some ⟨w3.heap.size, 0, none⟩) 2 2, .int .i64 5, .int .i64 0, .int .i64 5, .string ⟨#[]⟩, .slice (some ⟨w3.heap.size + 1, 0, none⟩) 1 1, .int .i64 5, .int .i64 1, .int .i64 0, .string ⟨#[116, 51]⟩, .slice none 0 0, .int .i64 0, .int .i64 0] 67)).heap.size = w3.heap.size + 1 + 1 + 1 by simp] at this
      exact this
    have k0x := obj_cell oX 0
    have k1x := obj_cell oX 1
    have k2x := obj_cell oX 2
    have k3x := obj_cell oX 3
    have k4x := obj_cell oX 4
    obtain ⟨X1, hX1⟩ : ∃ X1, flatSp ((seatSteps wlD ps).take i) (us.take i) = X1 := ⟨_, rfl⟩
    obtain ⟨X2, hX2⟩ : ∃ X2, flatSp ((seatSteps wlD ps).drop i) (us.drop i) = X2 := ⟨_, rfl⟩
    have hus1 : us.length = (seatSteps wlD ps).length := by rw [HSS.out.1, HS.out.2.2]
    have hR1 := Lib.hid (And.intro (show RowIn ((((w3.alloc (.cells #[.string ⟨#[112, 108, 97, 116, 101]⟩, .int .i64 0, .int .i64 0, .string ⟨#[112, 108, 97, 116, 101]⟩, .int .i64 7, .int .i64 0] 39)).alloc (.cells #[.string ⟨#[110, 111, 110, 101]⟩, .int .i64 0, .int .i64 0] 39)).alloc (.cells #[.int .i64 2, .string ⟨#[]⟩, .slice (some ⟨w3.heap.size, 0, none⟩) 2 2, .int .i64 5, .int .i64 0, .int .i64 5, .string ⟨#[]⟩, .slice (some ⟨w3.heap.size + 1, 0, none⟩) 1 1, .int .i64 5, .int .i64 1, .int .i64 0, .string ⟨#[116, 51]⟩, .slice none 0 0, .int .i64 0, .int .i64 0] 67)).alloc (.cells #[.int .i64 5, .string ⟨#[]⟩, .slice (some ⟨w3.heap.size + 1, 0, none⟩) 1 1, .int .i64 5, .int .i64 1] 67)) (.slice (some a) i sc) i X1 by rw [← hX1]; exact (rowIn_take HSS.out.2.1 hus1 hib.2).keepB q39) (And.intro (show X1.length = i * 5 by rw [← hX1, flatSp_len _ _ (by rw [List.length_take, List.length_take, hus1]), List.length_take, HS.out.2.2]; omega) (show ∀ u ∈ X1, u.oneCell' = true from fun u hu => by rw [← hX1, ← flatSp_take _ _ _ hus1] at hu; exact HSS.out.2.2.1 u (List.mem_of_mem_take hu))))
    have hR2 := Lib.hid (And.intro (show RowIn ((((w3.alloc (.cells #[.string ⟨#[112, 108, 97, 116, 101]⟩, .int .i64 0, .int .i64 0, .string ⟨#[112, 108, 97, 116, 101]⟩, .int .i64 7, .int .i64 0] 39)).alloc (.cells #[.string ⟨#[110, 111, 110, 101]⟩, .int .i64 0, .int .i64 0] 39)).alloc (.cells #[.int .i64 2, .string ⟨#[]⟩, .slice (some ⟨w3.heap.size, 0, none⟩) 2 2, .int .i64 5, .int .i64 0, .int .i64 5, .string ⟨#[]⟩, .slice (some ⟨w3.heap.size + 1, 0, none⟩) 1 1, .int .i64 5, .int .i64 1, .int .i64 0, .string ⟨#[116, 51]⟩, .slice none 0 0, .int .i64 0, .int .i64 0] 67)).alloc (.cells #[.int .i64 5, .string ⟨#[]⟩, .slice (some ⟨w3.heap.size + 1, 0, none⟩) 1 1, .int .i64 5, .int .i64 1] 67)) (.slice (some (a.add (i * 5))) (L - i) (sc - i)) (L - i) X2 by rw [← hX2, show a.add (i * 5) = ⟨a.block, a.off + i * 5, none⟩ by unfold Addr.add; rw [if_neg (by omega)]]; exact (rowIn_drop (m := L - i) (c' := sc - i) HSS.out.2.1 hus1 (by omega)).keepB q39) (And.intro (show X2.length = (L - i) * 5 by rw [← hX2, flatSp_len _ _ (by rw [List.length_drop, List.length_drop, hus1]), List.length_drop, HS.out.2.2]) (show ∀ u ∈ X2, u.oneCell' = true from fun u hu => by rw [← hX2, ← flatSp_drop _ _ _ hus1] at hu; exact HSS.out.2.2.1 u (List.mem_of_mem_drop hu))))
    have HZ := Lib.hid (And.intro q39 (And.intro hwX (And.intro hX1 (And.intro hX2 hus1))))
    have hcL : L ≤ sc := HC.out.1
    have hcm : sc ≤ 9223372036854775807 := HC.out.2
    have hiI : (i : Int) ≤ (L : Int) := by omega
    have hi0I : (0 : Int) ≤ (i : Int) := by omega
    have hisc : (i : Int) ≤ (sc : Int) := by omega
    clear q39 hwX oX hX1 hX2 hus1
    go_wp2_with fail
    generalize ((((w3.alloc (.cells #[.string ⟨#[112, 108, 97, 116, 101]⟩, .int .i64 0, .int .i64 0, .string ⟨#[112, 108, 97, 116, 101]⟩, .int .i64 7, .int .i64 0] 39)).alloc (.cells #[.string ⟨#[110, 111, 110, 101]⟩, .int .i64 0, .int .i64 0] 39)).alloc (.cells #[.int .i64 2, .string ⟨#[]⟩, .slice (some ⟨w3.heap.size, 0, none⟩) 2 2, .int .i64 5, .int .i64 0, .int .i64 5, .string ⟨#[]⟩, .slice (some ⟨w3.heap.size + 1, 0, none⟩) 1 1, .int .i64 5, .int .i64 1, .int .i64 0, .string ⟨#[116, 51]⟩, .slice none 0 0, .int .i64 0, .int .i64 0] 67)).alloc (.cells #[.int .i64 5, .string ⟨#[]⟩, .slice (some ⟨w3.heap.size + 1, 0, none⟩) 1 1, .int .i64 5, .int .i64 1] 67)) = w9 at *
    generalize hHH : w3.heap.size = HH at *
    generalize hH3 : HH + 1 + 1 + 1 = H3 at *
    replace hHH := Lib.hid hHH
    replace hH3 := Lib.hid hH3
    by_cases hci : i = sc
    · subst hci
      have hLi : L - i = 0 := by omega
      have hX20 : X2 = [] := by have h := hR2.out.2.1; rw [hLi, Nat.zero_mul] at h; exact List.length_eq_zero_iff.1 h
      replace hLi := Lib.hid hLi
      replace hX20 := Lib.hid hX20
      refine wp_region_noPanic ?_
      refine wp_region_fork (S := fun w' => w'.cell? ⟨H3, 0, none⟩ = some (.int .i64 5) ∧ w'.cell? ⟨H3, 1, none⟩ = some (.string ⟨#[]⟩) ∧ w'.cell? ⟨H3, 2, none⟩ = some (.slice (some ⟨HH + 1, 0, none⟩) 1 1) ∧ w'.cell? ⟨H3, 3, none⟩ = some (.int .i64 5) ∧ w'.cell? ⟨H3, 4, none⟩ = some (.int .i64 1) ∧ B w9 w') 6 (.step 0 3 (.step 1 3 (.step 2 3 (.step 4 0 (.step 7 3 (.step 8 3 (.step 9 3 (.fork 3 (.step 5 2 (.step 6 4 (.step 10 4 (.step 11 3 (.done))))) 5 (.step 3 2 (.step 6 4 (.step 10 4 (.step 11 3 (.done))))))))))))) [0, 0, 3, 4, 0, 16, 40, 0, 0, 384, 576, 2047] [0, 0, 3, 4, 0, 16, 40, 0, 0, 384, 576, 1153] [0, 0, 0, 0, 3184, 0, 0, 0, 0, 0, 0, 0] (by kernel_rfl) (by kernel_rfl) (fun _ _ _ _ _ h => h) ?_ (fun hH => ?_)
      · exact ⟨(B.refl w9).drew.keep k0x, (B.refl w9).drew.keep k1x, (B.refl w9).drew.keep k2x, (B.refl w9).drew.keep k3x, (B.refl w9).drew.keep k4x, (B.refl w9).drew⟩
      refine wpSeqF_free (d := 55) (v := ?_) rfl rfl (by kernel_rfl) (fun w => ?_) ?_
      rotate_left
      · go_simp <;> with_reducible rfl
      try dsimp only [List.set_cons_zero, List.set_cons_succ]
      refine wpSeqF_free (d := 56) (v := ?_) rfl rfl (by kernel_rfl) (fun w => ?_) ?_
      rotate_left
      · go_simp <;> with_reducible rfl
      try dsimp only [List.set_cons_zero, List.set_cons_succ]
      refine wpSeqF_free (d := 57) (v := ?_) rfl rfl (by kernel_rfl) (fun w => ?_) ?_
      rotate_left
      · go_simp <;> with_reducible rfl
      try dsimp only [List.set_cons_zero, List.set_cons_succ]
      refine wpSeqF_take (d := 59) (v := ?_) rfl rfl (by kernel_rfl) (fun w hS => ?_) ?_
      rotate_left
      · go_simp <;> with_reducible rfl
      try dsimp only [List.set_cons_zero, List.set_cons_succ]
      refine wpSeqF_free (d := 62) (v := ?_) rfl rfl (by kernel_rfl) (fun w => ?_) ?_
      rotate_left
      · go_simp <;> with_reducible rfl
      try dsimp only [List.set_cons_zero, List.set_cons_succ]
      refine wpSeqF_free (d := 63) (v := ?_) rfl rfl (by kernel_rfl) (fun w => ?_) ?_
      rotate_left
      · go_simp <;> with_reducible rfl
      try dsimp only [List.set_cons_zero, List.set_cons_succ]
      refine wpSeqF_free (d := 64) (v := ?_) rfl rfl (by kernel_rfl) (fun w => ?_) ?_
      rotate_left
      · go_simp <;> with_reducible rfl
      try dsimp only [List.set_cons_zero, List.set_cons_succ]
      refine wpSeqF_fork rfl rfl (by kernel_rfl) (by kernel_rfl) (fun K hK => ?_) (fun K hK => ?_)
      · refine wp_append_in _ _ 60 rfl w9.heap.size 67 i0 _ 5 64 Tryz.underlying60 hi0 hz0 hz1 hz2 rfl (by omega) (.slice none 0 0) 0 [] rfl (World.ownsRow_nil _ _ _ _) (.slice (some a) i i) rfl i X1 (hR1.out.1.keepB hH.2.2.2.2.2) hR1.out.2.1 hR1.out.2.2 (by unfold maxLen; omega) (by omega) hH.2.2.2.2.2.below.size ?_
        intro oA cA wA hownA hgrowA
        simp only [Nat.zero_add, List.nil_append] at hownA ⊢
        have hBA : B (w9.drew) wA := (B.refl _).grownBy hgrowA (fun _ h => by cases h)
        clear hgrowA
        refine hK.out _ _ ?_ (fun hH => ?_)
        · exact ⟨hBA.keep hH.1, hBA.keep hH.2.1, hBA.keep hH.2.2.1, hBA.keep hH.2.2.2.1, hBA.keep hH.2.2.2.2.1, hH.2.2.2.2.2.trans hBA⟩
        clear hK
        refine wpSeqF_call rfl (by kernel_rfl) (fun K hK => ?_)
        go_simp
        refine hK.out _ _ ?_ (fun hH => ?_)
        · exact ⟨((B.refl _).alloc _ _).keep hH.1, ((B.refl _).alloc _ _).keep hH.2.1, ((B.refl _).alloc _ _).keep hH.2.2.1, ((B.refl _).alloc _ _).keep hH.2.2.2.1, ((B.refl _).alloc _ _).keep hH.2.2.2.2.1, hH.2.2.2.2.2.alloc _ _⟩
        clear hK
        refine wpSeqF_gate rfl (by kernel_rfl) (fun K hK => ?_)
        refine wp_append_lies _ _ _ 60 rfl w9.heap.size 67 i0 _ 5 64 Tryz.underlying60 hi0 hz0 hz1 hz2 rfl (by omega) (.slice oA i cA) i X1 rfl (row_keep hownA ((B.refl wA).alloc #[.int .i64 5, .string ⟨#[]⟩, .slice (some ⟨HH + 1, 0, none⟩) 1 1, .int .i64 5, .int .i64 1] 67)) ⟨wA.heap.size, 0, none⟩ 1 1 [.int .i64 5, .string ⟨#[]⟩, .slice (some ⟨HH + 1, 0, none⟩) 1 1, .int .i64 5, .int .i64 1] rfl rfl (newest rfl) (fun u hu => by simp only [List.mem_cons, List.not_mem_nil, or_false] at hu; rcases hu with rfl | rfl | rfl | rfl | rfl <;> rfl) (by omega) (by unfold maxLen; omega) (by omega) hH.2.2.2.2.2.below.size _ rfl ?_
        intro g6 c6 w6 hown6 hgrow6 _ _
        have hB6 : B w9 w6 := hH.2.2.2.2.2.grownBy hgrow6 (fun x hx => ((row_keep hownA ((B.refl wA).alloc #[.int .i64 5, .string ⟨#[]⟩, .slice (some ⟨HH + 1, 0, none⟩) 1 1, .int .i64 5, .int .i64 1] 67)).lt x hx).1)
        clear hgrow6
        try simp only [Act.put, List.setIfInBounds_toArray, List.set_cons_zero, List.set_cons_succ]
        refine hK.out _ _ ?_
        clear hK
        refine wpSeqF_gate rfl (by kernel_rfl) (fun K hK => ?_)
        refine wp_append_in _ _ 60 rfl w9.heap.size 67 i0 _ 5 64 Tryz.underlying60 hi0 hz0 hz1 hz2 rfl (by omega) (.slice (some ⟨g6, 0, none⟩) (i + 1) c6) (i + 1) (X1 ++ [.int .i64 5, .string ⟨#[]⟩, .slice (some ⟨HH + 1, 0, none⟩) 1 1, .int .i64 5, .int .i64 1]) rfl hown6 _ rfl 0 [] (rowIn0 _ _ _) rfl (fun u hu => by simp at hu) (by unfold maxLen; omega) (by omega) hB6.below.size ?_
        intro oT cT wT hownT hgrowT
        simp only [Nat.add_zero, List.append_nil] at hownT ⊢
        have hBT : B w9 wT := hB6.grownBy hgrowT (fun x hx => (hown6.lt x hx).1)
        clear hgrowT
        try simp only [Act.put, List.setIfInBounds_toArray, List.set_cons_zero, List.set_cons_succ]
        refine hK.out _ _ ?_
        clear hK
        refine wpSeqF_free (d := 10) (v := ?_) rfl rfl (by kernel_rfl) (fun w => ?_) ?_
        rotate_left
        · go_simp <;> with_reducible rfl
        try dsimp only [List.set_cons_zero, List.set_cons_succ]
        refine wpSeqF_done ?_
        refine NoPanic.normal ?_
        have hTO : wT.ownsRow w9.heap.size 67 5 (.slice oT (i + 1) cT) (i + 1) (flatSp ((seatSteps wlD ps).take i ++ [wlX 1] ++ (seatSteps wlD ps).drop i) (us.take i ++ [.slice (some ⟨HH + 1, 0, none⟩) 1 1] ++ us.drop i)) := by
          have hl9 := HZ.out.2.2.2.2
          rw [flatSp_app _ _ _ _ (by rw [List.length_append, List.length_append, List.length_take, List.length_take, hl9]; rfl) (by rw [List.length_drop, List.length_drop, hl9]), flatSp_snoc _ _ _ _ (by rw [List.length_take, List.length_take, hl9]), HZ.out.2.2.1, HZ.out.2.2.2.1, hX20.out, List.append_nil]
          exact hownT
        have hIs := sps_own (by have hl9 := HZ.out.2.2.2.2; simp only [List.length_append, List.length_take, List.length_drop, List.length_cons, List.length_nil, hl9]) hTO (by simp only [List.length_append, List.length_take, List.length_drop, List.length_cons, List.length_nil, HS.out.2.2]; omega) (ins_wps HZ.out.2.2.2.2 (by rw [HS.out.2.2]; exact hib.2) (fun j u s h1 h2 => (HSS.out.2.2.2.1 j u s h1 h2).keepB (HZ.out.1.trans hBT)) (HZ.out.2.1.keepB hBT))
        have hq9 : B w2 wT := HSS.out.2.2.2.2.trans (HZ.out.1.trans hBT)
        have cc := cO wT hq9 _ _ hIs (ins_spsI HS.out.2.1 (wlX_ok 1))
        have hk9 : opsX wlD ((seatSteps wlD ps).take i ++ [wlX 1] ++ (seatSteps wlD ps).drop i) = .error (i, 26) := HS.out.1 i 1 ⟨hib.1, by rw [HS.out.2.2]; exact hib.2⟩
        have HF := Lib.hid (And.intro hq9 hk9)
        clear hTO hIs hq9 hk9 hownT hBT hown6 hB6 hownA hBA hH cO
        go_wp2_with fail
        refine Calls.mono cc ?_
        rintro e wE hR9
        obtain ⟨rfl, qE⟩ := hR9.erd HF.out.2
        have HG := Lib.hid (HP.out.2.trans (HF.out.1.trans qE))
        clear hR9 qE cc
        go_wp2_with fail
        try go_quiet (fail)
        try go_wp2
        try simp only [Exit.inBlock, Exit.then]
        go_ret
        exact ⟨by first | rfl | simp, HG.out⟩
      · go_simp
        refine hK.out _ _ ?_ (fun hH => ?_)
        · exact ⟨((B.refl _).alloc _ _).keep hH.1, ((B.refl _).alloc _ _).keep hH.2.1, ((B.refl _).alloc _ _).keep hH.2.2.1, ((B.refl _).alloc _ _).keep hH.2.2.2.1, ((B.refl _).alloc _ _).keep hH.2.2.2.2.1, hH.2.2.2.2.2.alloc _ _⟩
        clear hK
        refine wpSeqF_call rfl (by kernel_rfl) (fun K hK => ?_)
        refine wp_append_in _ _ 60 rfl w9.heap.size 67 i0 _ 5 64 Tryz.underlying60 hi0 hz0 hz1 hz2 rfl (by omega) (.slice none 0 0) 0 [] rfl (World.ownsRow_nil _ _ _ _) (.slice (some a) i i) rfl i X1 (hR1.out.1.keepB hH.2.2.2.2.2) hR1.out.2.1 hR1.out.2.2 (by unfold maxLen; omega) (by omega) hH.2.2.2.2.2.below.size ?_
        intro oA cA wA hownA hgrowA
        simp only [Nat.zero_add, List.nil_append] at hownA ⊢
        have hBA : B (w9.drew.alloc (.cells #[.int .i64 5, .string ⟨#[]⟩, .slice (some ⟨HH + 1, 0, none⟩) 1 1, .int .i64 5, .int .i64 1] 67)) wA := (B.refl _).grownBy hgrowA (fun _ h => by cases h)
        clear hgrowA
        refine hK.out _ _ ?_ (fun hH => ?_)
        · exact ⟨hBA.keep hH.1, hBA.keep hH.2.1, hBA.keep hH.2.2.1, hBA.keep hH.2.2.2.1, hBA.keep hH.2.2.2.2.1, hH.2.2.2.2.2.trans hBA⟩
        clear hK
        refine wpSeqF_gate rfl (by kernel_rfl) (fun K hK => ?_)
        refine wp_append_lies _ _ _ 60 rfl w9.heap.size 67 i0 _ 5 64 Tryz.underlying60 hi0 hz0 hz1 hz2 rfl (by omega) (.slice oA i cA) i X1 rfl hownA ⟨w9.heap.size, 0, none⟩ 1 1 [.int .i64 5, .string ⟨#[]⟩, .slice (some ⟨HH + 1, 0, none⟩) 1 1, .int .i64 5, .int .i64 1] rfl rfl (fun j u hj => hBA.keep (newest (w := w9.drew) rfl j u hj)) (fun u hu => by simp only [List.mem_cons, List.not_mem_nil, or_false] at hu; rcases hu with rfl | rfl | rfl | rfl | rfl <;> rfl) (by omega) (by unfold maxLen; omega) (by omega) hH.2.2.2.2.2.below.size _ rfl ?_
        intro g6 c6 w6 hown6 hgrow6 _ _
        have hB6 : B w9 w6 := hH.2.2.2.2.2.grownBy hgrow6 (fun x hx => (hownA.lt x hx).1)
        clear hgrow6
        try simp only [Act.put, List.setIfInBounds_toArray, List.set_cons_zero, List.set_cons_succ]
        refine hK.out _ _ ?_
        clear hK
        refine wpSeqF_gate rfl (by kernel_rfl) (fun K hK => ?_)
        refine wp_append_in _ _ 60 rfl w9.heap.size 67 i0 _ 5 64 Tryz.underlying60 hi0 hz0 hz1 hz2 rfl (by omega) (.slice (some ⟨g6, 0, none⟩) (i + 1) c6) (i + 1) (X1 ++ [.int .i64 5, .string ⟨#[]⟩, .slice (some ⟨HH + 1, 0, none⟩) 1 1, .int .i64 5, .int .i64 1]) rfl hown6 _ rfl 0 [] (rowIn0 _ _ _) rfl (fun u hu => by simp at hu) (by unfold maxLen; omega) (by omega) hB6.below.size ?_
        intro oT cT wT hownT hgrowT
        simp only [Nat.add_zero, List.append_nil] at hownT ⊢
        have hBT : B w9 wT := hB6.grownBy hgrowT (fun x hx => (hown6.lt x hx).1)
        clear hgrowT
        try simp only [Act.put, List.setIfInBounds_toArray, List.set_cons_zero, List.set_cons_succ]
        refine hK.out _ _ ?_
        clear hK
        refine wpSeqF_free (d := 10) (v := ?_) rfl rfl (by kernel_rfl) (fun w => ?_) ?_
        rotate_left
        · go_simp <;> with_reducible rfl
        try dsimp only [List.set_cons_zero, List.set_cons_succ]
        refine wpSeqF_done ?_
        refine NoPanic.normal ?_
        have hTO : wT.ownsRow w9.heap.size 67 5 (.slice oT (i + 1) cT) (i + 1) (flatSp ((seatSteps wlD ps).take i ++ [wlX 1] ++ (seatSteps wlD ps).drop i) (us.take i ++ [.slice (some ⟨HH + 1, 0, none⟩) 1 1] ++ us.drop i)) := by
          have hl9 := HZ.out.2.2.2.2
          rw [flatSp_app _ _ _ _ (by rw [List.length_append, List.length_append, List.length_take, List.length_take, hl9]; rfl) (by rw [List.length_drop, List.length_drop, hl9]), flatSp_snoc _ _ _ _ (by rw [List.length_take, List.length_take, hl9]), HZ.out.2.2.1, HZ.out.2.2.2.1, hX20.out, List.append_nil]
          exact hownT
        have hIs := sps_own (by have hl9 := HZ.out.2.2.2.2; simp only [List.length_append, List.length_take, List.length_drop, List.length_cons, List.length_nil, hl9]) hTO (by simp only [List.length_append, List.length_take, List.length_drop, List.length_cons, List.length_nil, HS.out.2.2]; omega) (ins_wps HZ.out.2.2.2.2 (by rw [HS.out.2.2]; exact hib.2) (fun j u s h1 h2 => (HSS.out.2.2.2.1 j u s h1 h2).keepB (HZ.out.1.trans hBT)) (HZ.out.2.1.keepB hBT))
        have hq9 : B w2 wT := HSS.out.2.2.2.2.trans (HZ.out.1.trans hBT)
        have cc := cO wT hq9 _ _ hIs (ins_spsI HS.out.2.1 (wlX_ok 1))
        have hk9 : opsX wlD ((seatSteps wlD ps).take i ++ [wlX 1] ++ (seatSteps wlD ps).drop i) = .error (i, 26) := HS.out.1 i 1 ⟨hib.1, by rw [HS.out.2.2]; exact hib.2⟩
        have HF := Lib.hid (And.intro hq9 hk9)
        clear hTO hIs hq9 hk9 hownT hBT hown6 hB6 hownA hBA hH cO
        go_wp2_with fail
        refine Calls.mono cc ?_
        rintro e wE hR9
        obtain ⟨rfl, qE⟩ := hR9.erd HF.out.2
        have HG := Lib.hid (HP.out.2.trans (HF.out.1.trans qE))
        clear hR9 qE cc
        go_wp2_with fail
        try go_quiet (fail)
        try go_wp2
        try simp only [Exit.inBlock, Exit.then]
        go_ret
        exact ⟨by first | rfl | simp, HG.out⟩
    · have hci' : ¬ sc = i := fun e => hci e.symm
      refine wp_region_noPanic ?_
      refine wp_region_fork (S := fun w' => w'.cell? ⟨H3, 0, none⟩ = some (.int .i64 5) ∧ w'.cell? ⟨H3, 1, none⟩ = some (.string ⟨#[]⟩) ∧ w'.cell? ⟨H3, 2, none⟩ = some (.slice (some ⟨HH + 1, 0, none⟩) 1 1) ∧ w'.cell? ⟨H3, 3, none⟩ = some (.int .i64 5) ∧ w'.cell? ⟨H3, 4, none⟩ = some (.int .i64 1) ∧ B w9 w') 6 (.step 0 3 (.step 1 3 (.step 2 3 (.step 4 0 (.step 7 3 (.step 8 3 (.step 9 3 (.fork 3 (.step 5 2 (.step 6 4 (.step 10 4 (.step 11 3 (.done))))) 5 (.step 3 2 (.step 6 4 (.step 10 4 (.step 11 3 (.done))))))))))))) [0, 0, 3, 4, 0, 16, 40, 0, 0, 384, 576, 2047] [0, 0, 3, 4, 0, 16, 40, 0, 0, 384, 576, 1153] [0, 0, 0, 0, 3184, 0, 0, 0, 0, 0, 0, 0] (by kernel_rfl) (by kernel_rfl) (fun _ _ _ _ _ h => h) ?_ (fun hH => ?_)
      · exact ⟨(B.refl w9).drew.keep k0x, (B.refl w9).drew.keep k1x, (B.refl w9).drew.keep k2x, (B.refl w9).drew.keep k3x, (B.refl w9).drew.keep k4x, (B.refl w9).drew⟩
      refine wpSeqF_free (d := 55) (v := ?_) rfl rfl (by kernel_rfl) (fun w => ?_) ?_
      rotate_left
      · go_simp <;> with_reducible rfl
      try dsimp only [List.set_cons_zero, List.set_cons_succ]
      refine wpSeqF_free (d := 56) (v := ?_) rfl rfl (by kernel_rfl) (fun w => ?_) ?_
      rotate_left
      · go_simp <;> with_reducible rfl
      try dsimp only [List.set_cons_zero, List.set_cons_succ]
      refine wpSeqF_free (d := 57) (v := ?_) rfl rfl (by kernel_rfl) (fun w => ?_) ?_
      rotate_left
      · go_simp <;> with_reducible rfl
      try dsimp only [List.set_cons_zero, List.set_cons_succ]
      refine wpSeqF_take (d := 59) (v := ?_) rfl rfl (by kernel_rfl) (fun w hS => ?_) ?_
      rotate_left
      · go_simp <;> with_reducible rfl
      try dsimp only [List.set_cons_zero, List.set_cons_succ]
      refine wpSeqF_free (d := 62) (v := ?_) rfl rfl (by kernel_rfl) (fun w => ?_) ?_
      rotate_left
      · go_simp <;> with_reducible rfl
      try dsimp only [List.set_cons_zero, List.set_cons_succ]
      refine wpSeqF_free (d := 63) (v := ?_) rfl rfl (by kernel_rfl) (fun w => ?_) ?_
      rotate_left
      · go_simp <;> with_reducible rfl
      try dsimp only [List.set_cons_zero, List.set_cons_succ]
      refine wpSeqF_free (d := 64) (v := ?_) rfl rfl (by kernel_rfl) (fun w => ?_) ?_
      rotate_left
      · go_simp <;> with_reducible rfl
      try dsimp only [List.set_cons_zero, List.set_cons_succ]
      refine wpSeqF_fork rfl rfl (by kernel_rfl) (by kernel_rfl) (fun K hK => ?_) (fun K hK => ?_)
      · refine wp_append_in _ _ 60 rfl w9.heap.size 67 i0 _ 5 64 Tryz.underlying60 hi0 hz0 hz1 hz2 rfl (by omega) (.slice none 0 0) 0 [] rfl (World.ownsRow_nil _ _ _ _) (.slice (some a) i sc) rfl i X1 (hR1.out.1.keepB hH.2.2.2.2.2) hR1.out.2.1 hR1.out.2.2 (by unfold maxLen; omega) (by omega) hH.2.2.2.2.2.below.size ?_
        intro oA cA wA hownA hgrowA
        simp only [Nat.zero_add, List.nil_append] at hownA ⊢
        have hBA : B (w9.drew) wA := (B.refl _).grownBy hgrowA (fun _ h => by cases h)
        clear hgrowA
        refine hK.out _ _ ?_ (fun hH => ?_)
        · exact ⟨hBA.keep hH.1, hBA.keep hH.2.1, hBA.keep hH.2.2.1, hBA.keep hH.2.2.2.1, hBA.keep hH.2.2.2.2.1, hH.2.2.2.2.2.trans hBA⟩
        clear hK
        refine wpSeqF_call rfl (by kernel_rfl) (fun K hK => ?_)
        go_simp
        refine hK.out _ _ ?_ (fun hH => ?_)
        · exact ⟨((B.refl _).alloc _ _).keep hH.1, ((B.refl _).alloc _ _).keep hH.2.1, ((B.refl _).alloc _ _).keep hH.2.2.1, ((B.refl _).alloc _ _).keep hH.2.2.2.1, ((B.refl _).alloc _ _).keep hH.2.2.2.2.1, hH.2.2.2.2.2.alloc _ _⟩
        clear hK
        refine wpSeqF_gate rfl (by kernel_rfl) (fun K hK => ?_)
        refine wp_append_lies _ _ _ 60 rfl w9.heap.size 67 i0 _ 5 64 Tryz.underlying60 hi0 hz0 hz1 hz2 rfl (by omega) (.slice oA i cA) i X1 rfl (row_keep hownA ((B.refl wA).alloc #[.int .i64 5, .string ⟨#[]⟩, .slice (some ⟨HH + 1, 0, none⟩) 1 1, .int .i64 5, .int .i64 1] 67)) ⟨wA.heap.size, 0, none⟩ 1 1 [.int .i64 5, .string ⟨#[]⟩, .slice (some ⟨HH + 1, 0, none⟩) 1 1, .int .i64 5, .int .i64 1] rfl rfl (newest rfl) (fun u hu => by simp only [List.mem_cons, List.not_mem_nil, or_false] at hu; rcases hu with rfl | rfl | rfl | rfl | rfl <;> rfl) (by omega) (by unfold maxLen; omega) (by omega) hH.2.2.2.2.2.below.size _ rfl ?_
        intro g6 c6 w6 hown6 hgrow6 _ _
        have hB6 : B w9 w6 := hH.2.2.2.2.2.grownBy hgrow6 (fun x hx => ((row_keep hownA ((B.refl wA).alloc #[.int .i64 5, .string ⟨#[]⟩, .slice (some ⟨HH + 1, 0, none⟩) 1 1, .int .i64 5, .int .i64 1] 67)).lt x hx).1)
        clear hgrow6
        try simp only [Act.put, List.setIfInBounds_toArray, List.set_cons_zero, List.set_cons_succ]
        refine hK.out _ _ ?_
        clear hK
        refine wpSeqF_gate rfl (by kernel_rfl) (fun K hK => ?_)
        refine wp_append_in _ _ 60 rfl w9.heap.size 67 i0 _ 5 64 Tryz.underlying60 hi0 hz0 hz1 hz2 rfl (by omega) (.slice (some ⟨g6, 0, none⟩) (i + 1) c6) (i + 1) (X1 ++ [.int .i64 5, .string ⟨#[]⟩, .slice (some ⟨HH + 1, 0, none⟩) 1 1, .int .i64 5, .int .i64 1]) rfl hown6 _ rfl (L - i) X2 (hR2.out.1.keepB hB6) hR2.out.2.1 hR2.out.2.2 (by unfold maxLen; omega) (by omega) hB6.below.size ?_
        intro oT cT wT hownT hgrowT
        skip
        have hBT : B w9 wT := hB6.grownBy hgrowT (fun x hx => (hown6.lt x hx).1)
        clear hgrowT
        try simp only [Act.put, List.setIfInBounds_toArray, List.set_cons_zero, List.set_cons_succ]
        refine hK.out _ _ ?_
        clear hK
        refine wpSeqF_free (d := 10) (v := ?_) rfl rfl (by kernel_rfl) (fun w => ?_) ?_
        rotate_left
        · go_simp <;> with_reducible rfl
        try dsimp only [List.set_cons_zero, List.set_cons_succ]
        refine wpSeqF_done ?_
        refine NoPanic.normal ?_
        have hTO : wT.ownsRow w9.heap.size 67 5 (.slice oT (i + 1 + (L - i)) cT) (i + 1 + (L - i)) (flatSp ((seatSteps wlD ps).take i ++ [wlX 1] ++ (seatSteps wlD ps).drop i) (us.take i ++ [.slice (some ⟨HH + 1, 0, none⟩) 1 1] ++ us.drop i)) := by
          have hl9 := HZ.out.2.2.2.2
          rw [flatSp_app _ _ _ _ (by rw [List.length_append, List.length_append, List.length_take, List.length_take, hl9]; rfl) (by rw [List.length_drop, List.length_drop, hl9]), flatSp_snoc _ _ _ _ (by rw [List.length_take, List.length_take, hl9]), HZ.out.2.2.1, HZ.out.2.2.2.1]
          exact hownT
        have hIs := sps_own (by have hl9 := HZ.out.2.2.2.2; simp only [List.length_append, List.length_take, List.length_drop, List.length_cons, List.length_nil, hl9]) hTO (by simp only [List.length_append, List.length_take, List.length_drop, List.length_cons, List.length_nil, HS.out.2.2]; omega) (ins_wps HZ.out.2.2.2.2 (by rw [HS.out.2.2]; exact hib.2) (fun j u s h1 h2 => (HSS.out.2.2.2.1 j u s h1 h2).keepB (HZ.out.1.trans hBT)) (HZ.out.2.1.keepB hBT))
        have hq9 : B w2 wT := HSS.out.2.2.2.2.trans (HZ.out.1.trans hBT)
        have cc := cO wT hq9 _ _ hIs (ins_spsI HS.out.2.1 (wlX_ok 1))
        have hk9 : opsX wlD ((seatSteps wlD ps).take i ++ [wlX 1] ++ (seatSteps wlD ps).drop i) = .error (i, 26) := HS.out.1 i 1 ⟨hib.1, by rw [HS.out.2.2]; exact hib.2⟩
        have HF := Lib.hid (And.intro hq9 hk9)
        clear hTO hIs hq9 hk9 hownT hBT hown6 hB6 hownA hBA hH cO
        go_wp2_with fail
        refine Calls.mono cc ?_
        rintro e wE hR9
        obtain ⟨rfl, qE⟩ := hR9.erd HF.out.2
        have HG := Lib.hid (HP.out.2.trans (HF.out.1.trans qE))
        clear hR9 qE cc
        go_wp2_with fail
        try go_quiet (fail)
        try go_wp2
        try simp only [Exit.inBlock, Exit.then]
        go_ret
        exact ⟨by first | rfl | simp, HG.out⟩
      · go_simp
        refine hK.out _ _ ?_ (fun hH => ?_)
        · exact ⟨((B.refl _).alloc _ _).keep hH.1, ((B.refl _).alloc _ _).keep hH.2.1, ((B.refl _).alloc _ _).keep hH.2.2.1, ((B.refl _).alloc _ _).keep hH.2.2.2.1, ((B.refl _).alloc _ _).keep hH.2.2.2.2.1, hH.2.2.2.2.2.alloc _ _⟩
        clear hK
        refine wpSeqF_call rfl (by kernel_rfl) (fun K hK => ?_)
        refine wp_append_in _ _ 60 rfl w9.heap.size 67 i0 _ 5 64 Tryz.underlying60 hi0 hz0 hz1 hz2 rfl (by omega) (.slice none 0 0) 0 [] rfl (World.ownsRow_nil _ _ _ _) (.slice (some a) i sc) rfl i X1 (hR1.out.1.keepB hH.2.2.2.2.2) hR1.out.2.1 hR1.out.2.2 (by unfold maxLen; omega) (by omega) hH.2.2.2.2.2.below.size ?_
        intro oA cA wA hownA hgrowA
        simp only [Nat.zero_add, List.nil_append] at hownA ⊢
        have hBA : B (w9.drew.alloc (.cells #[.int .i64 5, .string ⟨#[]⟩, .slice (some ⟨HH + 1, 0, none⟩) 1 1, .int .i64 5, .int .i64 1] 67)) wA := (B.refl _).grownBy hgrowA (fun _ h => by cases h)
        clear hgrowA
        refine hK.out _ _ ?_ (fun hH => ?_)
        · exact ⟨hBA.keep hH.1, hBA.keep hH.2.1, hBA.keep hH.2.2.1, hBA.keep hH.2.2.2.1, hBA.keep hH.2.2.2.2.1, hH.2.2.2.2.2.trans hBA⟩
        clear hK
        refine wpSeqF_gate rfl (by kernel_rfl) (fun K hK => ?_)
        refine wp_append_lies _ _ _ 60 rfl w9.heap.size 67 i0 _ 5 64 Tryz.underlying60 hi0 hz0 hz1 hz2 rfl (by omega) (.slice oA i cA) i X1 rfl hownA ⟨w9.heap.size, 0, none⟩ 1 1 [.int .i64 5, .string ⟨#[]⟩, .slice (some ⟨HH + 1, 0, none⟩) 1 1, .int .i64 5, .int .i64 1] rfl rfl (fun j u hj => hBA.keep (newest (w := w9.drew) rfl j u hj)) (fun u hu => by simp only [List.mem_cons, List.not_mem_nil, or_false] at hu; rcases hu with rfl | rfl | rfl | rfl | rfl <;> rfl) (by omega) (by unfold maxLen; omega) (by omega) hH.2.2.2.2.2.below.size _ rfl ?_
        intro g6 c6 w6 hown6 hgrow6 _ _
        have hB6 : B w9 w6 := hH.2.2.2.2.2.grownBy hgrow6 (fun x hx => (hownA.lt x hx).1)
        clear hgrow6
        try simp only [Act.put, List.setIfInBounds_toArray, List.set_cons_zero, List.set_cons_succ]
        refine hK.out _ _ ?_
        clear hK
        refine wpSeqF_gate rfl (by kernel_rfl) (fun K hK => ?_)
        refine wp_append_in _ _ 60 rfl w9.heap.size 67 i0 _ 5 64 Tryz.underlying60 hi0 hz0 hz1 hz2 rfl (by omega) (.slice (some ⟨g6, 0, none⟩) (i + 1) c6) (i + 1) (X1 ++ [.int .i64 5, .string ⟨#[]⟩, .slice (some ⟨HH + 1, 0, none⟩) 1 1, .int .i64 5, .int .i64 1]) rfl hown6 _ rfl (L - i) X2 (hR2.out.1.keepB hB6) hR2.out.2.1 hR2.out.2.2 (by unfold maxLen; omega) (by omega) hB6.below.size ?_
        intro oT cT wT hownT hgrowT
        skip
        have hBT : B w9 wT := hB6.grownBy hgrowT (fun x hx => (hown6.lt x hx).1)
        clear hgrowT
        try simp only [Act.put, List.setIfInBounds_toArray, List.set_cons_zero, List.set_cons_succ]
        refine hK.out _ _ ?_
        clear hK
        refine wpSeqF_free (d := 10) (v := ?_) rfl rfl (by kernel_rfl) (fun w => ?_) ?_
        rotate_left
        · go_simp <;> with_reducible rfl
        try dsimp only [List.set_cons_zero, List.set_cons_succ]
        refine wpSeqF_done ?_
        refine NoPanic.normal ?_
        have hTO : wT.ownsRow w9.heap.size 67 5 (.slice oT (i + 1 + (L - i)) cT) (i + 1 + (L - i)) (flatSp ((seatSteps wlD ps).take i ++ [wlX 1] ++ (seatSteps wlD ps).drop i) (us.take i ++ [.slice (some ⟨HH + 1, 0, none⟩) 1 1] ++ us.drop i)) := by
          have hl9 := HZ.out.2.2.2.2
          rw [flatSp_app _ _ _ _ (by rw [List.length_append, List.length_append, List.length_take, List.length_take, hl9]; rfl) (by rw [List.length_drop, List.length_drop, hl9]), flatSp_snoc _ _ _ _ (by rw [List.length_take, List.length_take, hl9]), HZ.out.2.2.1, HZ.out.2.2.2.1]
          exact hownT
        have hIs := sps_own (by have hl9 := HZ.out.2.2.2.2; simp only [List.length_append, List.length_take, List.length_drop, List.length_cons, List.length_nil, hl9]) hTO (by simp only [List.length_append, List.length_take, List.length_drop, List.length_cons, List.length_nil, HS.out.2.2]; omega) (ins_wps HZ.out.2.2.2.2 (by rw [HS.out.2.2]; exact hib.2) (fun j u s h1 h2 => (HSS.out.2.2.2.1 j u s h1 h2).keepB (HZ.out.1.trans hBT)) (HZ.out.2.1.keepB hBT))
        have hq9 : B w2 wT := HSS.out.2.2.2.2.trans (HZ.out.1.trans hBT)
        have cc := cO wT hq9 _ _ hIs (ins_spsI HS.out.2.1 (wlX_ok 1))
        have hk9 : opsX wlD ((seatSteps wlD ps).take i ++ [wlX 1] ++ (seatSteps wlD ps).drop i) = .error (i, 26) := HS.out.1 i 1 ⟨hib.1, by rw [HS.out.2.2]; exact hib.2⟩
        have HF := Lib.hid (And.intro hq9 hk9)
        clear hTO hIs hq9 hk9 hownT hBT hown6 hB6 hownA hBA hH cO
        go_wp2_with fail
        refine Calls.mono cc ?_
        rintro e wE hR9
        obtain ⟨rfl, qE⟩ := hR9.erd HF.out.2
        have HG := Lib.hid (HP.out.2.trans (HF.out.1.trans qE))
        clear hR9 qE cc
        go_wp2_with fail
        try go_quiet (fail)
        try go_wp2
        try simp only [Exit.inBlock, Exit.then]
        go_ret
        exact ⟨by first | rfl | simp, HG.out⟩
  · have q39 : B w3 ((((w3.alloc (.cells #[.string ⟨#[112, 108, 97, 116, 101]⟩, .int .i64 0, .int .i64 0, .string ⟨#[112, 108, 97, 116, 101]⟩, .int .i64 7, .int .i64 0] 39)).alloc (.cells #[.string ⟨#[110, 111, 110, 101]⟩, .int .i64 0, .int .i64 0] 39)).alloc (.cells #[.int .i64 2, .string ⟨#[]⟩, .slice (some ⟨w3.heap.size, 0, none⟩) 2 2, .int .i64 5, .int .i64 0, .int .i64 5, .string ⟨#[]⟩, .slice (some ⟨w3.heap.size + 1, 0, none⟩) 1 1, .int .i64 5, .int .i64 1, .int .i64 0, .string ⟨#[116, 51]⟩, .slice none 0 0, .int .i64 0, .int .i64 0] 67)).alloc (.cells #[.int .i64 0, .string ⟨#[116, 51]⟩, .slice none 0 0, .int .i64 0, .int .i64 0] 67)) := ((((B.refl w3).alloc _ _).alloc _ _).alloc _ _).alloc _ _
    have hwX : IsWps ((((w3.alloc (.cells #[.string ⟨#[112, 108, 97, 116, 101]⟩, .int .i64 0, .int .i64 0, .string ⟨#[112, 108, 97, 116, 101]⟩, .int .i64 7, .int .i64 0] 39)).alloc (.cells #[.string ⟨#[110, 111, 110, 101]⟩, .int .i64 0, .int .i64 0] 39)).alloc (.cells #[.int .i64 2, .string ⟨#[]⟩, .slice (some ⟨w3.heap.size, 0, none⟩) 2 2, .int .i64 5, .int .i64 0, .int .i64 5, .string ⟨#[]⟩, .slice (some ⟨w3.heap.size + 1, 0, none⟩) 1 1, .int .i64 5, .int .i64 1, .int .i64 0, .string ⟨#[116, 51]⟩, .slice none 0 0, .int .i64 0, .int .i64 0] 67)).alloc (.cells #[.int .i64 0, .string ⟨#[116, 51]⟩, .slice none 0 0, .int .i64 0, .int .i64 0] 67)) (.slice none 0 0) (wlX 2).w := wps_nil _
    have oX : ((((w3.alloc (.cells #[.string ⟨#[112, 108, 97, 116, 101]⟩, .int .i64 0, .int .i64 0, .string ⟨#[112, 108, 97, 116, 101]⟩, .int .i64 7, .int .i64 0] 39)).alloc (.cells #[.string ⟨#[110, 111, 110, 101]⟩, .int .i64 0, .int .i64 0] 39)).alloc (.cells #[.int .i64 2, .string ⟨#[]⟩, .slice (some ⟨w3.heap.size, 0, none⟩) 2 2, .int .i64 5, .int .i64 0, .int .i64 5, .string ⟨#[]⟩, .slice (some ⟨w3.heap.size + 1, 0, none⟩) 1 1, .int .i64 5, .int .i64 1, .int .i64 0, .string ⟨#[116, 51]⟩, .slice none 0 0, .int .i64 0, .int .i64 0] 67)).alloc (.cells #[.int .i64 0, .string ⟨#[116, 51]⟩, .slice none 0 0, .int .i64 0, .int .i64 0] 67)).heap[w3.heap.size + 1 + 1 + 1]? = some (.cells #[.int .i64 0, .string ⟨#[116, 51]⟩, .slice none 0 0, .int .i64 0, .int .i64 0] 67 (0, 0)) := by
      have := obj_new (((w3.alloc (.cells #[.string ⟨#[112, 108, 97, 116, 101]⟩, .int .i64 0, .int .i64 0, .string ⟨#[112, 108, 97, 116, 101]⟩, .int .i64 7, .int .i64 0] 39)).alloc (.cells #[.string ⟨#[110, 111, 110, 101]⟩, .int .i64 0, .int .i64 0] 39)).alloc (.cells #[.int .i64 2, .string ⟨#[]⟩, .slice (some ⟨w3.heap.size, 0, none⟩) 2 2, .int .i64 5, .int .i64 0, .int .i64 5, .string ⟨#[]⟩, .slice (some ⟨w3.heap.size + 1, 0, none⟩) 1 1, .int .i64 5, .int .i64 1, .int .i64 0, .string ⟨#[116, 51]⟩, .slice none 0 0, .int .i64 0, .int .i64 0] 67)) (.cells #[.int .i64 0, .string ⟨#[116, 51]⟩, .slice none 0 0, .int .i64 0, .int .i64 0] 67)
      rw [show (((w3.alloc (.cells #[.string ⟨#[112, 108, 97, 116, 101]⟩, .int .i64 0, .int .i64 0, .string ⟨#[112, 108, 97, 116, 101]⟩, .int .i64 7, .int .i64 0] 39)).alloc (.cells #[.string ⟨#[110, 111, 110, 101]⟩, .int .i64 0, .int .i64 0] 39)).alloc (.cells #[.int .i64 2, .string ⟨#[]⟩, .slice (some ⟨w3.heap.size, 0, none⟩) 2 2, .int .i64 5, .int .i64 0, .int .i64 5, .string ⟨#[]⟩, .slice (some ⟨w3.heap.size + 1, 0, none⟩) 1 1, .int .i64 5, .int .i64 1, .int .i64 0, .string ⟨#[116, 51]⟩, .slice none 0 0, .int .i64 0, .int .i64 0] 67)).heap.size = w3.heap.size + 1 + 1 + 1 by simp] at this
      exact this
    have k0x := obj_cell oX 0
    have k1x := obj_cell oX 1
    have k2x := obj_cell oX 2
    have k3x := obj_cell oX 3
    have k4x := obj_cell oX 4
    obtain ⟨X1, hX1⟩ : ∃ X1, flatSp ((seatSteps wlD ps).take i) (us.take i) = X1 := ⟨_, rfl⟩
    obtain ⟨X2, hX2⟩ : ∃ X2, flatSp ((seatSteps wlD ps).drop i) (us.drop i) = X2 := ⟨_, rfl⟩
    have hus1 : us.length = (seatSteps wlD ps).length := by rw [HSS.out.1, HS.out.2.2]
    have hR1 := Lib.hid (And.intro (show RowIn ((((w3.alloc (.cells #[.string ⟨#[112, 108, 97, 116, 101]⟩, .int .i64 0, .int .i64 0, .string ⟨#[112, 108, 97, 116, 101]⟩, .int .i64 7, .int .i64 0] 39)).alloc (.cells #[.string ⟨#[110, 111, 110, 101]⟩, .int .i64 0, .int .i64 0] 39)).alloc (.cells #[.int .i64 2, .string ⟨#[]⟩, .slice (some ⟨w3.heap.size, 0, none⟩) 2 2, .int .i64 5, .int .i64 0, .int .i64 5, .string ⟨#[]⟩, .slice (some ⟨w3.heap.size + 1, 0, none⟩) 1 1, .int .i64 5, .int .i64 1, .int .i64 0, .string ⟨#[116, 51]⟩, .slice none 0 0, .int .i64 0, .int .i64 0] 67)).alloc (.cells #[.int .i64 0, .string ⟨#[116, 51]⟩, .slice none 0 0, .int .i64 0, .int .i64 0] 67)) (.slice (some a) i sc) i X1 by rw [← hX1]; exact (rowIn_take HSS.out.2.1 hus1 hib.2).keepB q39) (And.intro (show X1.length = i * 5 by rw [← hX1, flatSp_len _ _ (by rw [List.length_take, List.length_take, hus1]), List.length_take, HS.out.2.2]; omega) (show ∀ u ∈ X1, u.oneCell' = true from fun u hu => by rw [← hX1, ← flatSp_take _ _ _ hus1] at hu; exact HSS.out.2.2.1 u (List.mem_of_mem_take hu))))
    have hR2 := Lib.hid (And.intro (show RowIn ((((w3.alloc (.cells #[.string ⟨#[112, 108, 97, 116, 101]⟩, .int .i64 0, .int .i64 0, .string ⟨#[112, 108, 97, 116, 101]⟩, .int .i64 7, .int .i64 0] 39)).alloc (.cells #[.string ⟨#[110, 111, 110, 101]⟩, .int .i64 0, .int .i64 0] 39)).alloc (.cells #[.int .i64 2, .string ⟨#[]⟩, .slice (some ⟨w3.heap.size, 0, none⟩) 2 2, .int .i64 5, .int .i64 0, .int .i64 5, .string ⟨#[]⟩, .slice (some ⟨w3.heap.size + 1, 0, none⟩) 1 1, .int .i64 5, .int .i64 1, .int .i64 0, .string ⟨#[116, 51]⟩, .slice none 0 0, .int .i64 0, .int .i64 0] 67)).alloc (.cells #[.int .i64 0, .string ⟨#[116, 51]⟩, .slice none 0 0, .int .i64 0, .int .i64 0] 67)) (.slice (some (a.add (i * 5))) (L - i) (sc - i)) (L - i) X2 by rw [← hX2, show a.add (i * 5) = ⟨a.block, a.off + i * 5, none⟩ by unfold Addr.add; rw [if_neg (by omega)]]; exact (rowIn_drop (m := L - i) (c' := sc - i) HSS.out.2.1 hus1 (by omega)).keepB q39) (And.intro (show X2.length = (L - i) * 5 by rw [← hX2, flatSp_len _ _ (by rw [List.length_drop, List.length_drop, hus1]), List.length_drop, HS.out.2.2]) (show ∀ u ∈ X2, u.oneCell' = true from fun u hu => by rw [← hX2, ← flatSp_drop _ _ _ hus1] at hu; exact HSS.out.2.2.1 u (List.mem_of_mem_drop hu))))
    have HZ := Lib.hid (And.intro q39 (And.intro hwX (And.intro hX1 (And.intro hX2 hus1))))
    have hcL : L ≤ sc := HC.out.1
    have hcm : sc ≤ 9223372036854775807 := HC.out.2
    have hiI : (i : Int) ≤ (L : Int) := by omega
    have hi0I : (0 : Int) ≤ (i : Int) := by omega
    have hisc : (i : Int) ≤ (sc : Int) := by omega
    clear q39 hwX oX hX1 hX2 hus1
    go_wp2_with fail
    generalize ((((w3.alloc (.cells #[.string ⟨#[112, 108, 97, 116, 101]⟩, .int .i64 0, .int .i64 0, .string ⟨#[112, 108, 97, 116, 101]⟩, .int .i64 7, .int .i64 0] 39)).alloc (.cells #[.string ⟨#[110, 111, 110, 101]⟩, .int .i64 0, .int .i64 0] 39)).alloc (.cells #[.int .i64 2, .string ⟨#[]⟩, .slice (some ⟨w3.heap.size, 0, none⟩) 2 2, .int .i64 5, .int .i64 0, .int .i64 5, .string ⟨#[]⟩, .slice (some ⟨w3.heap.size + 1, 0, none⟩) 1 1, .int .i64 5, .int .i64 1, .int .i64 0, .string ⟨#[116, 51]⟩, .slice none 0 0, .int .i64 0, .int .i64 0] 67)).alloc (.cells #[.int .i64 0, .string ⟨#[116, 51]⟩, .slice none 0 0, .int .i64 0, .int .i64 0] 67)) = w9 at *
    generalize hHH : w3.heap.size = HH at *
    generalize hH3 : HH + 1 + 1 + 1 = H3 at *
    replace hHH := Lib.hid hHH
    replace hH3 := Lib.hid hH3
    by_cases hci : i = sc
    · subst hci
      have hLi : L - i = 0 := by omega
      have hX20 : X2 = [] := by have h := hR2.out.2.1; rw [hLi, Nat.zero_mul] at h; exact List.length_eq_zero_iff.1 h
      replace hLi := Lib.hid hLi
      replace hX20 := Lib.hid hX20
      refine wp_region_noPanic ?_
      refine wp_region_fork (S := fun w' => w'.cell? ⟨H3, 0, none⟩ = some (.int .i64 0) ∧ w'.cell? ⟨H3, 1, none⟩ = some (.string ⟨#[116, 51]⟩) ∧ w'.cell? ⟨H3, 2, none⟩ = some (.slice none 0 0) ∧ w'.cell? ⟨H3, 3, none⟩ = some (.int .i64 0) ∧ w'.cell? ⟨H3, 4, none⟩ = some (.int .i64 0) ∧ B w9 w') 6 (.step 0 3 (.step 1 3 (.step 2 3 (.step 4 0 (.step 7 3 (.step 8 3 (.step 9 3 (.fork 3 (.step 5 2 (.step 6 4 (.step 10 4 (.step 11 3 (.done))))) 5 (.step 3 2 (.step 6 4 (.step 10 4 (.step 11 3 (.done))))))))))))) [0, 0, 3, 4, 0, 16, 40, 0, 0, 384, 576, 2047] [0, 0, 3, 4, 0, 16, 40, 0, 0, 384, 576, 1153] [0, 0, 0, 0, 3184, 0, 0, 0, 0, 0, 0, 0] (by kernel_rfl) (by kernel_rfl) (fun _ _ _ _ _ h => h) ?_ (fun hH => ?_)
      · exact ⟨(B.refl w9).drew.keep k0x, (B.refl w9).drew.keep k1x, (B.refl w9).drew.keep k2x, (B.refl w9).drew.keep k3x, (B.refl w9).drew.keep k4x, (B.refl w9).drew⟩
      refine wpSeqF_free (d := 55) (v := ?_) rfl rfl (by kernel_rfl) (fun w => ?_) ?_
      rotate_left
      · go_simp <;> with_reducible rfl
      try dsimp only [List.set_cons_zero, List.set_cons_succ]
      refine wpSeqF_free (d := 56) (v := ?_) rfl rfl (by kernel_rfl) (fun w => ?_) ?_
      rotate_left
      · go_simp <;> with_reducible rfl
      try dsimp only [List.set_cons_zero, List.set_cons_succ]
      refine wpSeqF_free (d := 57) (v := ?_) rfl rfl (by kernel_rfl) (fun w => ?_) ?_
      rotate_left
      · go_simp <;> with_reducible rfl
      try dsimp only [List.set_cons_zero, List.set_cons_succ]
      refine wpSeqF_take (d := 59) (v := ?_) rfl rfl (by kernel_rfl) (fun w hS => ?_) ?_
      rotate_left
      · go_simp <;> with_reducible rfl
      try dsimp only [List.set_cons_zero, List.set_cons_succ]
      refine wpSeqF_free (d := 62) (v := ?_) rfl rfl (by kernel_rfl) (fun w => ?_) ?_
      rotate_left
      · go_simp <;> with_reducible rfl
      try dsimp only [List.set_cons_zero, List.set_cons_succ]
      refine wpSeqF_free (d := 63) (v := ?_) rfl rfl (by kernel_rfl) (fun w => ?_) ?_
      rotate_left
      · go_simp <;> with_reducible rfl
      try dsimp only [List.set_cons_zero, List.set_cons_succ]
      refine wpSeqF_free (d := 64) (v := ?_) rfl rfl (by kernel_rfl) (fun w => ?_) ?_
      rotate_left
      · go_simp <;> with_reducible rfl
      try dsimp only [List.set_cons_zero, List.set_cons_succ]
      refine wpSeqF_fork rfl rfl (by kernel_rfl) (by kernel_rfl) (fun K hK => ?_) (fun K hK => ?_)
      · refine wp_append_in _ _ 60 rfl w9.heap.size 67 i0 _ 5 64 Tryz.underlying60 hi0 hz0 hz1 hz2 rfl (by omega) (.slice none 0 0) 0 [] rfl (World.ownsRow_nil _ _ _ _) (.slice (some a) i i) rfl i X1 (hR1.out.1.keepB hH.2.2.2.2.2) hR1.out.2.1 hR1.out.2.2 (by unfold maxLen; omega) (by omega) hH.2.2.2.2.2.below.size ?_
        intro oA cA wA hownA hgrowA
        simp only [Nat.zero_add, List.nil_append] at hownA ⊢
        have hBA : B (w9.drew) wA := (B.refl _).grownBy hgrowA (fun _ h => by cases h)
        clear hgrowA
        refine hK.out _ _ ?_ (fun hH => ?_)
        · exact ⟨hBA.keep hH.1, hBA.keep hH.2.1, hBA.keep hH.2.2.1, hBA.keep hH.2.2.2.1, hBA.keep hH.2.2.2.2.1, hH.2.2.2.2.2.trans hBA⟩
        clear hK
        refine wpSeqF_call rfl (by kernel_rfl) (fun K hK => ?_)
        go_simp
        refine hK.out _ _ ?_ (fun hH => ?_)
        · exact ⟨((B.refl _).alloc _ _).keep hH.1, ((B.refl _).alloc _ _).keep hH.2.1, ((B.refl _).alloc _ _).keep hH.2.2.1, ((B.refl _).alloc _ _).keep hH.2.2.2.1, ((B.refl _).alloc _ _).keep hH.2.2.2.2.1, hH.2.2.2.2.2.alloc _ _⟩
        clear hK
        refine wpSeqF_gate rfl (by kernel_rfl) (fun K hK => ?_)
        refine wp_append_lies _ _ _ 60 rfl w9.heap.size 67 i0 _ 5 64 Tryz.underlying60 hi0 hz0 hz1 hz2 rfl (by omega) (.slice oA i cA) i X1 rfl (row_keep hownA ((B.refl wA).alloc #[.int .i64 0, .string ⟨#[116, 51]⟩, .slice none 0 0, .int .i64 0, .int .i64 0] 67)) ⟨wA.heap.size, 0, none⟩ 1 1 [.int .i64 0, .string ⟨#[116, 51]⟩, .slice none 0 0, .int .i64 0, .int .i64 0] rfl rfl (newest rfl) (fun u hu => by simp only [List.mem_cons, List.not_mem_nil, or_false] at hu; rcases hu with rfl | rfl | rfl | rfl | rfl <;> rfl) (by omega) (by unfold maxLen; omega) (by omega) hH.2.2.2.2.2.below.size _ rfl ?_
        intro g6 c6 w6 hown6 hgrow6 _ _
        have hB6 : B w9 w6 := hH.2.2.2.2.2.grownBy hgrow6 (fun x hx => ((row_keep hownA ((B.refl wA).alloc #[.int .i64 0, .string ⟨#[116, 51]⟩, .slice none 0 0, .int .i64 0, .int .i64 0] 67)).lt x hx).1)
        clear hgrow6
        try simp only [Act.put, List.setIfInBounds_toArray, List.set_cons_zero, List.set_cons_succ]
        refine hK.out _ _ ?_
        clear hK
        refine wpSeqF_gate rfl (by kernel_rfl) (fun K hK => ?_)
        refine wp_append_in _ _ 60 rfl w9.heap.size 67 i0 _ 5 64 Tryz.underlying60 hi0 hz0 hz1 hz2 rfl (by omega) (.slice (some ⟨g6, 0, none⟩) (i + 1) c6) (i + 1) (X1 ++ [.int .i64 0, .string ⟨#[116, 51]⟩, .slice none 0 0, .int .i64 0, .int .i64 0]) rfl hown6 _ rfl 0 [] (rowIn0 _ _ _) rfl (fun u hu => by simp at hu) (by unfold maxLen; omega) (by omega) hB6.below.size ?_
        intro oT cT wT hownT hgrowT
        simp only [Nat.add_zero, List.append_nil] at hownT ⊢
        have hBT : B w9 wT := hB6.grownBy hgrowT (fun x hx => (hown6.lt x hx).1)
        clear hgrowT
        try simp only [Act.put, List.setIfInBounds_toArray, List.set_cons_zero, List.set_cons_succ]
        refine hK.out _ _ ?_
        clear hK
        refine wpSeqF_free (d := 10) (v := ?_) rfl rfl (by kernel_rfl) (fun w => ?_) ?_
        rotate_left
        · go_simp <;> with_reducible rfl
        try dsimp only [List.set_cons_zero, List.set_cons_succ]
        refine wpSeqF_done ?_
        refine NoPanic.normal ?_
        have hTO : wT.ownsRow w9.heap.size 67 5 (.slice oT (i + 1) cT) (i + 1) (flatSp ((seatSteps wlD ps).take i ++ [wlX 2] ++ (seatSteps wlD ps).drop i) (us.take i ++ [.slice none 0 0] ++ us.drop i)) := by
          have hl9 := HZ.out.2.2.2.2
          rw [flatSp_app _ _ _ _ (by rw [List.length_append, List.length_append, List.length_take, List.length_take, hl9]; rfl) (by rw [List.length_drop, List.length_drop, hl9]), flatSp_snoc _ _ _ _ (by rw [List.length_take, List.length_take, hl9]), HZ.out.2.2.1, HZ.out.2.2.2.1, hX20.out, List.append_nil]
          exact hownT
        have hIs := sps_own (by have hl9 := HZ.out.2.2.2.2; simp only [List.length_append, List.length_take, List.length_drop, List.length_cons, List.length_nil, hl9]) hTO (by simp only [List.length_append, List.length_take, List.length_drop, List.length_cons, List.length_nil, HS.out.2.2]; omega) (ins_wps HZ.out.2.2.2.2 (by rw [HS.out.2.2]; exact hib.2) (fun j u s h1 h2 => (HSS.out.2.2.2.1 j u s h1 h2).keepB (HZ.out.1.trans hBT)) (HZ.out.2.1.keepB hBT))
        have hq9 : B w2 wT := HSS.out.2.2.2.2.trans (HZ.out.1.trans hBT)
        have cc := cO wT hq9 _ _ hIs (ins_spsI HS.out.2.1 (wlX_ok 2))
        have hk9 : opsX wlD ((seatSteps wlD ps).take i ++ [wlX 2] ++ (seatSteps wlD ps).drop i) = .error (i, 28) := HS.out.1 i 2 ⟨hib.1, by rw [HS.out.2.2]; exact hib.2⟩
        have HF := Lib.hid (And.intro hq9 hk9)
        clear hTO hIs hq9 hk9 hownT hBT hown6 hB6 hownA hBA hH cO
        go_wp2_with fail
        refine Calls.mono cc ?_
        rintro e wE hR9
        obtain ⟨rfl, qE⟩ := hR9.erd HF.out.2
        have HG := Lib.hid (HP.out.2.trans (HF.out.1.trans qE))
        clear hR9 qE cc
        go_wp2_with fail
        try go_quiet (fail)
        try go_wp2
        try simp only [Exit.inBlock, Exit.then]
        go_ret
        exact ⟨by first | rfl | simp, HG.out⟩
      · go_simp
        refine hK.out _ _ ?_ (fun hH => ?_)
        · exact ⟨((B.refl _).alloc _ _).keep hH.1, ((B.refl _).alloc _ _).keep hH.2.1, ((B.refl _).alloc _ _).keep hH.2.2.1, ((B.refl _).alloc _ _).keep hH.2.2.2.1, ((B.refl _).alloc _ _).keep hH.2.2.2.2.1, hH.2.2.2.2.2.alloc _ _⟩
        clear hK
        refine wpSeqF_call rfl (by kernel_rfl) (fun K hK => ?_)
        refine wp_append_in _ _ 60 rfl w9.heap.size 67 i0 _ 5 64 Tryz.underlying60 hi0 hz0 hz1 hz2 rfl (by omega) (.slice none 0 0) 0 [] rfl (World.ownsRow_nil _ _ _ _) (.slice (some a) i i) rfl i X1 (hR1.out.1.keepB hH.2.2.2.2.2) hR1.out.2.1 hR1.out.2.2 (by unfold maxLen; omega) (by omega) hH.2.2.2.2.2.below.size ?_
        intro oA cA wA hownA hgrowA
        simp only [Nat.zero_add, List.nil_append] at hownA ⊢
        have hBA : B (w9.drew.alloc (.cells #[.int .i64 0, .string ⟨#[116, 51]⟩, .slice none 0 0, .int .i64 0, .int .i64 0] 67)) wA := (B.refl _).grownBy hgrowA (fun _ h => by cases h)
        clear hgrowA
        refine hK.out _ _ ?_ (fun hH => ?_)
        · exact ⟨hBA.keep hH.1, hBA.keep hH.2.1, hBA.keep hH.2.2.1, hBA.keep hH.2.2.2.1, hBA.keep hH.2.2.2.2.1, hH.2.2.2.2.2.trans hBA⟩
        clear hK
        refine wpSeqF_gate rfl (by kernel_rfl) (fun K hK => ?_)
        refine wp_append_lies _ _ _ 60 rfl w9.heap.size 67 i0 _ 5 64 Tryz.underlying60 hi0 hz0 hz1 hz2 rfl (by omega) (.slice oA i cA) i X1 rfl hownA ⟨w9.heap.size, 0, none⟩ 1 1 [.int .i64 0, .string ⟨#[116, 51]⟩, .slice none 0 0, .int .i64 0, .int .i64 0] rfl rfl (fun j u hj => hBA.keep (newest (w := w9.drew) rfl j u hj)) (fun u hu => by simp only [List.mem_cons, List.not_mem_nil, or_false] at hu; rcases hu with rfl | rfl | rfl | rfl | rfl <;> rfl) (by omega) (by unfold maxLen; omega) (by omega) hH.2.2.2.2.2.below.size _ rfl ?_
        intro g6 c6 w6 hown6 hgrow6 _ _
        have hB6 : B w9 w6 := hH.2.2.2.2.2.grownBy hgrow6 (fun x hx => (hownA.lt x hx).1)
        clear hgrow6
        try simp only [Act.put, List.setIfInBounds_toArray, List.set_cons_zero, List.set_cons_succ]
        refine hK.out _ _ ?_
        clear hK
        refine wpSeqF_gate rfl (by kernel_rfl) (fun K hK => ?_)
        refine wp_append_in _ _ 60 rfl w9.heap.size 67 i0 _ 5 64 Tryz.underlying60 hi0 hz0 hz1 hz2 rfl (by omega) (.slice (some ⟨g6, 0, none⟩) (i + 1) c6) (i + 1) (X1 ++ [.int .i64 0, .string ⟨#[116, 51]⟩, .slice none 0 0, .int .i64 0, .int .i64 0]) rfl hown6 _ rfl 0 [] (rowIn0 _ _ _) rfl (fun u hu => by simp at hu) (by unfold maxLen; omega) (by omega) hB6.below.size ?_
        intro oT cT wT hownT hgrowT
        simp only [Nat.add_zero, List.append_nil] at hownT ⊢
        have hBT : B w9 wT := hB6.grownBy hgrowT (fun x hx => (hown6.lt x hx).1)
        clear hgrowT
        try simp only [Act.put, List.setIfInBounds_toArray, List.set_cons_zero, List.set_cons_succ]
        refine hK.out _ _ ?_
        clear hK
        refine wpSeqF_free (d := 10) (v := ?_) rfl rfl (by kernel_rfl) (fun w => ?_) ?_
        rotate_left
        · go_simp <;> with_reducible rfl
        try dsimp only [List.set_cons_zero, List.set_cons_succ]
        refine wpSeqF_done ?_
        refine NoPanic.normal ?_
        have hTO : wT.ownsRow w9.heap.size 67 5 (.slice oT (i + 1) cT) (i + 1) (flatSp ((seatSteps wlD ps).take i ++ [wlX 2] ++ (seatSteps wlD ps).drop i) (us.take i ++ [.slice none 0 0] ++ us.drop i)) := by
          have hl9 := HZ.out.2.2.2.2
          rw [flatSp_app _ _ _ _ (by rw [List.length_append, List.length_append, List.length_take, List.length_take, hl9]; rfl) (by rw [List.length_drop, List.length_drop, hl9]), flatSp_snoc _ _ _ _ (by rw [List.length_take, List.length_take, hl9]), HZ.out.2.2.1, HZ.out.2.2.2.1, hX20.out, List.append_nil]
          exact hownT
        have hIs := sps_own (by have hl9 := HZ.out.2.2.2.2; simp only [List.length_append, List.length_take, List.length_drop, List.length_cons, List.length_nil, hl9]) hTO (by simp only [List.length_append, List.length_take, List.length_drop, List.length_cons, List.length_nil, HS.out.2.2]; omega) (ins_wps HZ.out.2.2.2.2 (by rw [HS.out.2.2]; exact hib.2) (fun j u s h1 h2 => (HSS.out.2.2.2.1 j u s h1 h2).keepB (HZ.out.1.trans hBT)) (HZ.out.2.1.keepB hBT))
        have hq9 : B w2 wT := HSS.out.2.2.2.2.trans (HZ.out.1.trans hBT)
        have cc := cO wT hq9 _ _ hIs (ins_spsI HS.out.2.1 (wlX_ok 2))
        have hk9 : opsX wlD ((seatSteps wlD ps).take i ++ [wlX 2] ++ (seatSteps wlD ps).drop i) = .error (i, 28) := HS.out.1 i 2 ⟨hib.1, by rw [HS.out.2.2]; exact hib.2⟩
        have HF := Lib.hid (And.intro hq9 hk9)
        clear hTO hIs hq9 hk9 hownT hBT hown6 hB6 hownA hBA hH cO
        go_wp2_with fail
        refine Calls.mono cc ?_
        rintro e wE hR9
        obtain ⟨rfl, qE⟩ := hR9.erd HF.out.2
        have HG := Lib.hid (HP.out.2.trans (HF.out.1.trans qE))
        clear hR9 qE cc
        go_wp2_with fail
        try go_quiet (fail)
        try go_wp2
        try simp only [Exit.inBlock, Exit.then]
        go_ret
        exact ⟨by first | rfl | simp, HG.out⟩
    · have hci' : ¬ sc = i := fun e => hci e.symm
      refine wp_region_noPanic ?_
      refine wp_region_fork (S := fun w' => w'.cell? ⟨H3, 0, none⟩ = some (.int .i64 0) ∧ w'.cell? ⟨H3, 1, none⟩ = some (.string ⟨#[116, 51]⟩) ∧ w'.cell? ⟨H3, 2, none⟩ = some (.slice none 0 0) ∧ w'.cell? ⟨H3, 3, none⟩ = some (.int .i64 0) ∧ w'.cell? ⟨H3, 4, none⟩ = some (.int .i64 0) ∧ B w9 w') 6 (.step 0 3 (.step 1 3 (.step 2 3 (.step 4 0 (.step 7 3 (.step 8 3 (.step 9 3 (.fork 3 (.step 5 2 (.step 6 4 (.step 10 4 (.step 11 3 (.done))))) 5 (.step 3 2 (.step 6 4 (.step 10 4 (.step 11 3 (.done))))))))))))) [0, 0, 3, 4, 0, 16, 40, 0, 0, 384, 576, 2047] [0, 0, 3, 4, 0, 16, 40, 0, 0, 384, 576, 1153] [0, 0, 0, 0, 3184, 0, 0, 0, 0, 0, 0, 0] (by kernel_rfl) (by kernel_rfl) (fun _ _ _ _ _ h => h) ?_ (fun hH => ?_)
      · exact ⟨(B.refl w9).drew.keep k0x, (B.refl w9).drew.keep k1x, (B.refl w9).drew.keep k2x, (B.refl w9).drew.keep k3x, (B.refl w9).drew.keep k4x, (B.refl w9).drew⟩
      refine wpSeqF_free (d := 55) (v := ?_) rfl rfl (by kernel_rfl) (fun w => ?_) ?_
      rotate_left
      · go_simp <;> with_reducible rfl
      try dsimp only [List.set_cons_zero, List.set_cons_succ]
      refine wpSeqF_free (d := 56) (v := ?_) rfl rfl (by kernel_rfl) (fun w => ?_) ?_
      rotate_left
      · go_simp <;> with_reducible rfl
      try dsimp only [List.set_cons_zero, List.set_cons_succ]
      refine wpSeqF_free (d := 57) (v := ?_) rfl rfl (by kernel_rfl) (fun w => ?_) ?_
      rotate_left
      · go_simp <;> with_reducible rfl
      try dsimp only [List.set_cons_zero, List.set_cons_succ]
      refine wpSeqF_take (d := 59) (v := ?_) rfl rfl (by kernel_rfl) (fun w hS => ?_) ?_
      rotate_left
      · go_simp <;> with_reducible rfl
      try dsimp only [List.set_cons_zero, List.set_cons_succ]
      refine wpSeqF_free (d := 62) (v := ?_) rfl rfl (by kernel_rfl) (fun w => ?_) ?_
      rotate_left
      · go_simp <;> with_reducible rfl
      try dsimp only [List.set_cons_zero, List.set_cons_succ]
      refine wpSeqF_free (d := 63) (v := ?_) rfl rfl (by kernel_rfl) (fun w => ?_) ?_
      rotate_left
      · go_simp <;> with_reducible rfl
      try dsimp only [List.set_cons_zero, List.set_cons_succ]
      refine wpSeqF_free (d := 64) (v := ?_) rfl rfl (by kernel_rfl) (fun w => ?_) ?_
      rotate_left
      · go_simp <;> with_reducible rfl
      try dsimp only [List.set_cons_zero, List.set_cons_succ]
      refine wpSeqF_fork rfl rfl (by kernel_rfl) (by kernel_rfl) (fun K hK => ?_) (fun K hK => ?_)
      · refine wp_append_in _ _ 60 rfl w9.heap.size 67 i0 _ 5 64 Tryz.underlying60 hi0 hz0 hz1 hz2 rfl (by omega) (.slice none 0 0) 0 [] rfl (World.ownsRow_nil _ _ _ _) (.slice (some a) i sc) rfl i X1 (hR1.out.1.keepB hH.2.2.2.2.2) hR1.out.2.1 hR1.out.2.2 (by unfold maxLen; omega) (by omega) hH.2.2.2.2.2.below.size ?_
        intro oA cA wA hownA hgrowA
        simp only [Nat.zero_add, List.nil_append] at hownA ⊢
        have hBA : B (w9.drew) wA := (B.refl _).grownBy hgrowA (fun _ h => by cases h)
        clear hgrowA
        refine hK.out _ _ ?_ (fun hH => ?_)
        · exact ⟨hBA.keep hH.1, hBA.keep hH.2.1, hBA.keep hH.2.2.1, hBA.keep hH.2.2.2.1, hBA.keep hH.2.2.2.2.1, hH.2.2.2.2.2.trans hBA⟩
        clear hK
        refine wpSeqF_call rfl (by kernel_rfl) (fun K hK => ?_)
        go_simp
        refine hK.out _ _ ?_ (fun hH => ?_)
        · exact ⟨((B.refl _).alloc _ _).keep hH.1, ((B.refl _).alloc _ _).keep hH.2.1, ((B.refl _).alloc _ _).keep hH.2.2.1, ((B.refl _).alloc _ _).keep hH.2.2.2.1, ((B.refl _).alloc _ _).keep hH.2.2.2.2.1, hH.2.2.2.2.2.alloc _ _⟩
        clear hK
        refine wpSeqF_gate rfl (by kernel_rfl) (fun K hK => ?_)
        refine wp_append_lies _ _ _ 60 rfl w9.heap.size 67 i0 _ 5 64 Tryz.underlying60 hi0 hz0 hz1 hz2 rfl (by omega) (.slice oA i cA) i X1 rfl (row_keep hownA ((B.refl wA).alloc #[.int .i64 0, .string ⟨#[116, 51]⟩, .slice none 0 0, .int .i64 0, .int .i64 0] 67)) ⟨wA.heap.size, 0, none⟩ 1 1 [.int .i64 0, .string ⟨#[116, 51]⟩, .slice none 0 0, .int .i64 0, .int .i64 0] rfl rfl (newest rfl) (fun u hu => by simp only [List.mem_cons, List.not_mem_nil, or_false] at hu; rcases hu with rfl | rfl | rfl | rfl | rfl <;> rfl) (by omega) (by unfold maxLen; omega) (by omega) hH.2.2.2.2.2.below.size _ rfl ?_
        intro g6 c6 w6 hown6 hgrow6 _ _
        have hB6 : B w9 w6 := hH.2.2.2.2.2.grownBy hgrow6 (fun x hx => ((row_keep hownA ((B.refl wA).alloc #[.int .i64 0, .string ⟨#[116, 51]⟩, .slice none 0 0, .int .i64 0, .int .i64 0] 67)).lt x hx).1)
        clear hgrow6
        try simp only [Act.put, List.setIfInBounds_toArray, List.set_cons_zero, List.set_cons_succ]
        refine hK.out _ _ ?_
        clear hK
        refine wpSeqF_gate rfl (by kernel_rfl) (fun K hK => ?_)
        refine wp_append_in _ _ 60 rfl w9.heap.size 67 i0 _ 5 64 Tryz.underlying60 hi0 hz0 hz1 hz2 rfl (by omega) (.slice (some ⟨g6, 0, none⟩) (i + 1) c6) (i + 1) (X1 ++ [.int .i64 0, .string ⟨#[116, 51]⟩, .slice none 0 0, .int .i64 0, .int .i64 0]) rfl hown6 _ rfl (L - i) X2 (hR2.out.1.keepB hB6) hR2.out.2.1 hR2.out.2.2 (by unfold maxLen; omega) (by omega) hB6.below.size ?_
        intro oT cT wT hownT hgrowT
        skip
        have hBT : B w9 wT := hB6.grownBy hgrowT (fun x hx => (hown6.lt x hx).1)
        clear hgrowT
        try simp only [Act.put, List.setIfInBounds_toArray, List.set_cons_zero, List.set_cons_succ]
        refine hK.out _ _ ?_
        clear hK
        refine wpSeqF_free (d := 10) (v := ?_) rfl rfl (by kernel_rfl) (fun w => ?_) ?_
        rotate_left
        · go_simp <;> with_reducible rfl
        try dsimp only [List.set_cons_zero, List.set_cons_succ]
        refine wpSeqF_done ?_
        refine NoPanic.normal ?_
        have hTO : wT.ownsRow w9.heap.size 67 5 (.slice oT (i + 1 + (L - i)) cT) (i + 1 + (L - i)) (flatSp ((seatSteps wlD ps).take i ++ [wlX 2] ++ (seatSteps wlD ps).drop i) (us.take i ++ [.slice none 0 0] ++ us.drop i)) := by
          have hl9 := HZ.out.2.2.2.2
          rw [flatSp_app _ _ _ _ (by rw [List.length_append, List.length_append, List.length_take, List.length_take, hl9]; rfl) (by rw [List.length_drop, List.length_drop, hl9]), flatSp_snoc _ _ _ _ (by rw [List.length_take, List.length_take, hl9]), HZ.out.2.2.1, HZ.out.2.2.2.1]
          exact hownT
        have hIs := sps_own (by have hl9 := HZ.out.2.2.2.2; simp only [List.length_append, List.length_take, List.length_drop, List.length_cons, List.length_nil, hl9]) hTO (by simp only [List.length_append, List.length_take, List.length_drop, List.length_cons, List.length_nil, HS.out.2.2]; omega) (ins_wps HZ.out.2.2.2.2 (by rw [HS.out.2.2]; exact hib.2) (fun j u s h1 h2 => (HSS.out.2.2.2.1 j u s h1 h2).keepB (HZ.out.1.trans hBT)) (HZ.out.2.1.keepB hBT))
        have hq9 : B w2 wT := HSS.out.2.2.2.2.trans (HZ.out.1.trans hBT)
        have cc := cO wT hq9 _ _ hIs (ins_spsI HS.out.2.1 (wlX_ok 2))
        have hk9 : opsX wlD ((seatSteps wlD ps).take i ++ [wlX 2] ++ (seatSteps wlD ps).drop i) = .error (i, 28) := HS.out.1 i 2 ⟨hib.1, by rw [HS.out.2.2]; exact hib.2⟩
        have HF := Lib.hid (And.intro hq9 hk9)
        clear hTO hIs hq9 hk9 hownT hBT hown6 hB6 hownA hBA hH cO
        go_wp2_with fail
        refine Calls.mono cc ?_
        rintro e wE hR9
        obtain ⟨rfl, qE⟩ := hR9.erd HF.out.2
        have HG := Lib.hid (HP.out.2.trans (HF.out.1.trans qE))
        clear hR9 qE cc
        go_wp2_with fail
        try go_quiet (fail)
        try go_wp2
        try simp only [Exit.inBlock, Exit.then]
        go_ret
        exact ⟨by first | rfl | simp, HG.out⟩
      · go_simp
        refine hK.out _ _ ?_ (fun hH => ?_)
        · exact ⟨((B.refl _).alloc _ _).keep hH.1, ((B.refl _).alloc _ _).keep hH.2.1, ((B.refl _).alloc _ _).keep hH.2.2.1, ((B.refl _).alloc _ _).keep hH.2.2.2.1, ((B.refl _).alloc _ _).keep hH.2.2.2.2.1, hH.2.2.2.2.2.alloc _ _⟩
        clear hK
        refine wpSeqF_call rfl (by kernel_rfl) (fun K hK => ?_)
        refine wp_append_in _ _ 60 rfl w9.heap.size 67 i0 _ 5 64 Tryz.underlying60 hi0 hz0 hz1 hz2 rfl (by omega) (.slice none 0 0) 0 [] rfl (World.ownsRow_nil _ _ _ _) (.slice (some a) i sc) rfl i X1 (hR1.out.1.keepB hH.2.2.2.2.2) hR1.out.2.1 hR1.out.2.2 (by unfold maxLen; omega) (by omega) hH.2.2.2.2.2.below.size ?_
        intro oA cA wA hownA hgrowA
        simp only [Nat.zero_add, List.nil_append] at hownA ⊢
        have hBA : B (w9.drew.alloc (.cells #[.int .i64 0, .string ⟨#[116, 51]⟩, .slice none 0 0, .int .i64 0, .int .i64 0] 67)) wA := (B.refl _).grownBy hgrowA (fun _ h => by cases h)
        clear hgrowA
        refine hK.out _ _ ?_ (fun hH => ?_)
        · exact ⟨hBA.keep hH.1, hBA.keep hH.2.1, hBA.keep hH.2.2.1, hBA.keep hH.2.2.2.1, hBA.keep hH.2.2.2.2.1, hH.2.2.2.2.2.trans hBA⟩
        clear hK
        refine wpSeqF_gate rfl (by kernel_rfl) (fun K hK => ?_)
        refine wp_append_lies _ _ _ 60 rfl w9.heap.size 67 i0 _ 5 64 Tryz.underlying60 hi0 hz0 hz1 hz2 rfl (by omega) (.slice oA i cA) i X1 rfl hownA ⟨w9.heap.size, 0, none⟩ 1 1 [.int .i64 0, .string ⟨#[116, 51]⟩, .slice none 0 0, .int .i64 0, .int .i64 0] rfl rfl (fun j u hj => hBA.keep (newest (w := w9.drew) rfl j u hj)) (fun u hu => by simp only [List.mem_cons, List.not_mem_nil, or_false] at hu; rcases hu with rfl | rfl | rfl | rfl | rfl <;> rfl) (by omega) (by unfold maxLen; omega) (by omega) hH.2.2.2.2.2.below.size _ rfl ?_
        intro g6 c6 w6 hown6 hgrow6 _ _
        have hB6 : B w9 w6 := hH.2.2.2.2.2.grownBy hgrow6 (fun x hx => (hownA.lt x hx).1)
        clear hgrow6
        try simp only [Act.put, List.setIfInBounds_toArray, List.set_cons_zero, List.set_cons_succ]
        refine hK.out _ _ ?_
        clear hK
        refine wpSeqF_gate rfl (by kernel_rfl) (fun K hK => ?_)
        refine wp_append_in _ _ 60 rfl w9.heap.size 67 i0 _ 5 64 Tryz.underlying60 hi0 hz0 hz1 hz2 rfl (by omega) (.slice (some ⟨g6, 0, none⟩) (i + 1) c6) (i + 1) (X1 ++ [.int .i64 0, .string ⟨#[116, 51]⟩, .slice none 0 0, .int .i64 0, .int .i64 0]) rfl hown6 _ rfl (L - i) X2 (hR2.out.1.keepB hB6) hR2.out.2.1 hR2.out.2.2 (by unfold maxLen; omega) (by omega) hB6.below.size ?_
        intro oT cT wT hownT hgrowT
        skip
        have hBT : B w9 wT := hB6.grownBy hgrowT (fun x hx => (hown6.lt x hx).1)
        clear hgrowT
        try simp only [Act.put, List.setIfInBounds_toArray, List.set_cons_zero, List.set_cons_succ]
        refine hK.out _ _ ?_
        clear hK
        refine wpSeqF_free (d := 10) (v := ?_) rfl rfl (by kernel_rfl) (fun w => ?_) ?_
        rotate_left
        · go_simp <;> with_reducible rfl
        try dsimp only [List.set_cons_zero, List.set_cons_succ]
        refine wpSeqF_done ?_
        refine NoPanic.normal ?_
        have hTO : wT.ownsRow w9.heap.size 67 5 (.slice oT (i + 1 + (L - i)) cT) (i + 1 + (L - i)) (flatSp ((seatSteps wlD ps).take i ++ [wlX 2] ++ (seatSteps wlD ps).drop i) (us.take i ++ [.slice none 0 0] ++ us.drop i)) := by
          have hl9 := HZ.out.2.2.2.2
          rw [flatSp_app _ _ _ _ (by rw [List.length_append, List.length_append, List.length_take, List.length_take, hl9]; rfl) (by rw [List.length_drop, List.length_drop, hl9]), flatSp_snoc _ _ _ _ (by rw [List.length_take, List.length_take, hl9]), HZ.out.2.2.1, HZ.out.2.2.2.1]
          exact hownT
        have hIs := sps_own (by have hl9 := HZ.out.2.2.2.2; simp only [List.length_append, List.length_take, List.length_drop, List.length_cons, List.length_nil, hl9]) hTO (by simp only [List.length_append, List.length_take, List.length_drop, List.length_cons, List.length_nil, HS.out.2.2]; omega) (ins_wps HZ.out.2.2.2.2 (by rw [HS.out.2.2]; exact hib.2) (fun j u s h1 h2 => (HSS.out.2.2.2.1 j u s h1 h2).keepB (HZ.out.1.trans hBT)) (HZ.out.2.1.keepB hBT))
        have hq9 : B w2 wT := HSS.out.2.2.2.2.trans (HZ.out.1.trans hBT)
        have cc := cO wT hq9 _ _ hIs (ins_spsI HS.out.2.1 (wlX_ok 2))
        have hk9 : opsX wlD ((seatSteps wlD ps).take i ++ [wlX 2] ++ (seatSteps wlD ps).drop i) = .error (i, 28) := HS.out.1 i 2 ⟨hib.1, by rw [HS.out.2.2]; exact hib.2⟩
        have HF := Lib.hid (And.intro hq9 hk9)
        clear hTO hIs hq9 hk9 hownT hBT hown6 hB6 hownA hBA hH cO
        go_wp2_with fail
        refine Calls.mono cc ?_
        rintro e wE hR9
        obtain ⟨rfl, qE⟩ := hR9.erd HF.out.2
        have HG := Lib.hid (HP.out.2.trans (HF.out.1.trans qE))
        clear hR9 qE cc
        go_wp2_with fail
        try go_quiet (fail)
        try go_wp2
        try simp only [Exit.inBlock, Exit.then]
        go_ret
        exact ⟨by first | rfl | simp, HG.out⟩
theorem wells13_ok (pv : Value) (ps : List Pz) (at_ k : Int) (h1 : (Lit.int .u8 at_).wf = true) (h2 : (Lit.int .u8 k).wf = true) (w : World) (hP : IsPzs w pv ps) (htab : Lib.TabIs Tryz.prog w "internal/strconv.uint64pow10" .u64 Lib.pow10Tab) :
    Calls Tryz.prog 4 #[pv, .int .u8 at_, .int .u8 k] w fun e w' => e = .returned (.bool true) ∧ B w w' := by
  have a1 := u8_wf h1
  have a2 := u8_wf h2
  obtain ⟨a, rfl⟩ : ∃ a : Nat, at_ = (a : Int) := ⟨at_.toNat, by omega⟩
  obtain ⟨k, rfl⟩ : ∃ a : Nat, k = (a : Int) := ⟨k.toNat, by omega⟩
  exact wells13_any pv ps a k (by omega) (by omega) w hP
end Go.Proofs.YtjdkhobkdlldnaaGreatDoor
