/-
 Contracts and what they rest on.
-/
import Derived.Test.YtalnfojaccfcjaaGreatDoorZ1
import Derived.Test.YtalnfojaccfcjaaGreatDoorZ3
namespace Go.Proofs.YtalnfojaccfcjaaGreatDoor
open Go.RowKit
section
variable {P : Program} {ops : Array Oper} {Q : Exit → Act → World → Prop} {md : Region.Mode} {S : World → Prop} {g : Nat}
def Closed (md : Region.Mode) (ops : Array Oper) (listed : Array Bool) : Prop :=
 ∀ j oj, ops[j]? = some oj → listed.getD j false = true → ∀ e ∈ oj.after, Region.binds md e = true → listed.getD e.on false = true
theorem getD_set_eq {listed : Array Bool} {i : Nat} (d : Bool) (h : i < listed.size) : (listed.setIfInBounds i true).getD i d = true := by
 rw [Array.getD_eq_getD_getElem?, Array.getElem?_setIfInBounds]; simp [h]
theorem getD_set_other {listed : Array Bool} {i k : Nat} (d : Bool) (h : i ≠ k) : (listed.setIfInBounds i true).getD k d = listed.getD k d := by
 rw [Array.getD_eq_getD_getElem?, Array.getD_eq_getD_getElem?, Array.getElem?_setIfInBounds, if_neg h]
theorem getD_set_grow {listed : Array Bool} {i k : Nat} (h : listed.getD k false = true) : (listed.setIfInBounds i true).getD k false = true := by
 by_cases e : i = k
 ·subst e
  by_cases c : i < listed.size
  ·exact getD_set_eq _ c
  ·rw [Array.getD_eq_getD_getElem?, Array.getElem?_eq_none (by omega)] at h; cases h
 ·rw [getD_set_other _ e]; exact h
theorem getD_flip {listed : Array Bool} {i : Nat} (h : listed.getD i true = false) : listed.getD i false = false := by
 by_cases c : i < listed.size
 ·simp [c] at h ⊢; exact h
 ·rw [Array.getD_eq_getD_getElem?, Array.getElem?_eq_none (by omega)] at h; cases h
theorem Closed.set {listed : Array Bool} (h : Closed md ops listed) {i : Nat} (hr : i ∈ Region.ready md ops listed) : Closed md ops (listed.setIfInBounds i true) := by
 intro j oj hj hl e he hb
 by_cases c : i = j
 ·subst c
  obtain ⟨_, o, ho, h2⟩ := mem_ready.1 hr
  obtain rfl := Option.some.inj (ho.symm.trans hj)
  exact getD_set_grow (h2 e he hb)
 ·rw [getD_set_other _ c] at hl
  exact getD_set_grow (h j oj hj hl e he hb)
def wpAnyG (P : Program) (md : Region.Mode) (ops : Array Oper) (Q : Exit → Act → World → Prop) (S : World → Prop) (g : Nat) : Nat → Array Bool → Act → World → Prop
 | 0, listed, a, w => Region.ready md ops listed = [] ∧ Q .normal a w
 | fuel + 1, listed, a, w =>
  (Region.ready md ops listed = [] → Q .normal a w) ∧
  ∀ i ∈ Region.ready md ops listed, wpOp P ops Q i (fun a' w' => (i ≠ g → listed.getD g false = false → S w') ∧ wpAnyG P md ops Q S g fuel (listed.setIfInBounds i true) a' w') a w
theorem wpAny_of_gate : ∀ (fuel : Nat) (listed : Array Bool) (a : Act) (w : World), wpAnyG P md ops Q S g fuel listed a w → wpAny P md ops Q fuel listed a w
 | 0, _, _, _, h => h
 | fuel + 1, _, _, _, h => ⟨h.1, fun i hi => wpOp_mono (fun a' w' h' => wpAny_of_gate fuel _ a' w' h'.2) (h.2 i hi)⟩
def Behind (md : Region.Mode) (ops : Array Oper) (i g : Nat) : Prop :=
 ∀ listed, Closed md ops listed → listed.getD i true = false → listed.getD g false = false ∧ g ∉ Region.ready md ops listed
theorem wpAnyG_first {i : Nat} {oi : Oper} {v : Value} {T : World → Prop} (hi : ops[i]? = some oi) (hsel : ∀ (j : Nat) (o : Oper) cs b, ops[j]? = some o → o.op ≠ .select cs b) (hig : i ≠ g)
  (hT : (∀ w, T w) ∨ ((∀ w, S w → T w) ∧ Behind md ops i g)) (hQ : ∀ c a w, Q (.panic c) (a.put oi.dst v) w → Q (.panic c) a w) :
  ∀ (fuel : Nat) (listed : Array Bool) (a : Act) (w : World), Closed md ops listed →
   (∀ j oj, ops[j]? = some oj → j ≠ i → listed.getD j true = false → (∀ e ∈ oj.after, Region.binds md e = true → e.on ≠ i) → oi.apart ops oj = true) →
   i ∈ Region.ready md ops listed → YieldsIf P ops T oi v a → T w → (listed.getD g false = false → S w) →
   wpAnyG P md ops Q S g fuel (listed.setIfInBounds i true) (a.put oi.dst v) w → wpAnyG P md ops Q S g (fuel + 1) listed a w := by
 intro fuel
 induction fuel with
 | zero =>
  intro listed a w _ _ hr hy hTw hSw H
  refine ⟨fun h => (by rw [h] at hr; cases hr), fun j hj => ?_⟩
  by_cases hji : j = i
  ·subst hji; exact hy.wpOp hi hTw ⟨fun _ h => hSw h, H⟩
  ·have := ready_mono hj hji
   rw [H.1] at this
   cases this
 | succ fuel ih =>
  intro listed a w hcl hfree hr hy hTw hSw H
  refine ⟨fun h => (by rw [h] at hr; cases hr), fun j hj => ?_⟩
  by_cases hji : j = i
  ·subst hji; exact hy.wpOp hi hTw ⟨fun _ h => hSw h, H⟩
  ·have h1 := H.2 j (ready_mono hj hji)
   obtain ⟨hjun, oj, hoj, hall⟩ := mem_ready.1 hj
   have hiun := (mem_ready.1 hr).1
   have hnot : ∀ e ∈ oj.after, Region.binds md e = true → e.on ≠ i := fun e he hb heq => by
    have h1 := hall e he hb
    rw [heq, getD_flip hiun] at h1
    cases h1
   have h2 := wpOp_putIf hoj (hfree j oj hoj hji hjun hnot) (fun cs b => hsel i oi cs b hi) (fun cs b => hsel j oj cs b hoj) hQ hy h1
   have hfree' : ∀ k ok, ops[k]? = some ok → k ≠ i → (listed.setIfInBounds j true).getD k true = false →
     (∀ e ∈ ok.after, Region.binds md e = true → e.on ≠ i) → oi.apart ops ok = true := fun k ok hk hki hun hno => by
    refine hfree k ok hk hki ?_ hno
    by_cases hjk : j = k
    ·subst hjk; exact hjun
    ·rw [getD_set_other true hjk] at hun; exact hun
   rw [getD_set_other _ hig] at h2
   refine wpOp_mono (fun a' w' h3 => ?_) h2
   have hS' : (listed.setIfInBounds j true).getD g false = false → S w' := fun h => by
    by_cases hjg : j = g
    ·subst hjg
     rw [getD_set_eq _ (by
      by_cases c : j < listed.size
      ·exact c
      ·rw [Array.getD_eq_getD_getElem?, Array.getElem?_eq_none (by omega)] at hjun; cases hjun)] at h
     cases h
    ·rw [getD_set_other _ hjg] at h
     exact h3.2.1 hjg h
   have hT' : T w' := by
    rcases hT with hT | ⟨hT, hB⟩
    ·exact hT w'
    ·obtain ⟨hg1, hg2⟩ := hB listed hcl hiun
     refine hT w' (h3.2.1 (fun e => hg2 (e ▸ hj)) hg1)
   refine ⟨fun h4 h5 => h3.2.1 h4 h5, ih (listed.setIfInBounds j true) a' w' (hcl.set hj) hfree' (ready_mono hr (Ne.symm hji)) h3.1 hT' hS' ?_⟩
   rw [Array.setIfInBounds_comm _ _ hji]
   exact h3.2.2
def laterOk (am : List Nat) (i later : Nat) : Bool :=
 (List.range am.length).all fun d => !later.testBit d || d == i || (List.range d).any fun e => later.testBit e && (am.getD d 0).testBit e
theorem later_unlisted (am : List Nat) (ham : ops.toList.map (amOf md) = am) (i later : Nat) (hl : laterOk am i later = true) (listed : Array Bool) (hcl : Closed md ops listed) (hi : listed.getD i false = false) :
  ∀ d, d < am.length → later.testBit d = true → listed.getD d false = false := by
 intro d
 induction d using Nat.strongRecOn with
 | _ d ih =>
  intro hd hb
  have h := List.all_eq_true.1 hl d (List.mem_range.2 hd)
  rw [hb] at h
  simp only [Bool.not_true, Bool.false_or, Bool.or_eq_true, beq_iff_eq, List.any_eq_true, List.mem_range, Bool.and_eq_true] at h
  rcases h with rfl | ⟨e, he, h1, h2⟩
  ·exact hi
  ·have hlen : am.length = ops.size := by rw [← ham]; simp
   obtain ⟨o, ho⟩ : ∃ o, ops[d]? = some o := ⟨_, Array.getElem?_eq_getElem (by omega)⟩
   have ea : am.getD d 0 = amOf md o := by
    rw [← ham, List.getD_eq_getElem?_getD, List.getElem?_map, Array.getElem?_toList, ho]; rfl
   rw [ea] at h2
   obtain ⟨x, hx, hxb, hxe⟩ := (amOf_bit md o e).1 h2
   cases c : listed.getD d false
   ·rfl
   ·have := hcl d o ho c x hx hxb
    rw [hxe, ih e he (by omega) h1] at this
    cases this
theorem behind_of (am : List Nat) (ham : ops.toList.map (amOf md) = am) (i later : Nat) (hl : laterOk am i later = true) (hg : later.testBit g = true) (hgi : g ≠ i) (hgn : g < am.length) : Behind md ops i g := by
 intro listed hcl hi
 refine ⟨later_unlisted am ham i later hl listed hcl (getD_flip hi) g hgn hg, fun hr => ?_⟩
 obtain ⟨_, o, ho, h2⟩ := mem_ready.1 hr
 have h := List.all_eq_true.1 hl g (List.mem_range.2 hgn)
 rw [hg] at h
 simp only [Bool.not_true, Bool.false_or, Bool.or_eq_true, beq_iff_eq, List.any_eq_true, List.mem_range, Bool.and_eq_true] at h
 rcases h with h | ⟨e, he, h1, h3⟩
 ·exact hgi h
 ·have ea : am.getD g 0 = amOf md o := by
   rw [← ham, List.getD_eq_getElem?_getD, List.getElem?_map, Array.getElem?_toList, ho]; rfl
  rw [ea] at h3
  obtain ⟨x, hx, hxb, hxe⟩ := (amOf_bit md o e).1 h3
  have h4 := h2 x hx hxb
  rw [hxe, later_unlisted am ham i later hl listed hcl (getD_flip hi) e (by omega) h1] at h4
  cases h4
end
def seqOkG (n g : Nat) (am cf later : List Nat) : List (Nat × Nat) → Nat → Bool
 | [], done => (List.range n).all done.testBit
 | (i, k) :: l, done => decide (i < n) && !done.testBit i && (am.getD i 0 &&& done == am.getD i 0) &&
   (if k = 2 ∨ k = 4 then (List.range n).all (fun j => j == i || done.testBit j || !(am.getD j 0 &&& done == am.getD j 0)) else (cf.getD i 0 &&& done == cf.getD i 0) && i != g) &&
   (if k = 0 then laterOk am i (later.getD i 0) && (later.getD i 0).testBit g else if k = 2 then i != g && !done.testBit g else if k = 4 then i == g || done.testBit g else true) && seqOkG n g am cf later l (done ||| 2 ^ i)
def wpSeqG (P : Program) (ops : Array Oper) (Q : Exit → Act → World → Prop) (S : World → Prop) : List (Nat × Nat) → Act → World → Prop
 | [], a, w => Q .normal a w
 | (i, k) :: l, a, w => ∃ o, ops[i]? = some o ∧
   (if k = 0 then ∃ v, (Region.wanted o (yielded ops a.tmps) = true ∧ ∀ w, S w → (execOp a.eval o).run P w = .ok (.value v) w) ∧ wpSeqG P ops Q S l (a.put o.dst v) w
   else if k = 1 then Region.wanted o (yielded ops a.tmps) = false ∧ wpSeqG P ops Q S l (a.put o.dst undef) w
   else if k = 2 then wpOp P ops Q i (fun a' w' => S w' ∧ wpSeqG P ops Q S l a' w') a w
   else if k = 3 then ∃ v, (Region.wanted o (yielded ops a.tmps) = true ∧ ∀ w, (execOp a.eval o).run P w = .ok (.value v) w) ∧ wpSeqG P ops Q S l (a.put o.dst v) w
   else k = 4 ∧ wpOp P ops Q i (fun a' w' => wpSeqG P ops Q S l a' w') a w)
theorem wpAnyG_seq {P : Program} {md : Region.Mode} {ops : Array Oper} {Q : Exit → Act → World → Prop} {S : World → Prop} (g : Nat) (am cf later : List Nat) (hgn : g < ops.size)
  (ham : ops.toList.map (amOf md) = am) (hcf : cfAll md ops ops.toList 0 = cf) (hs : Region.noSelect ops = true)
  (hQ : ∀ c a w d v, Q (.panic c) (Act.put a d v) w → Q (.panic c) a w) :
  ∀ (l : List (Nat × Nat)) (done : Nat) (listed : Array Bool) (a : Act) (w : World), Inv ops.size listed done → Closed md ops listed → seqOkG ops.size g am cf later l done = true → (done.testBit g = false → S w) →
   wpSeqG P ops Q S l a w → wpAnyG P md ops Q S g l.length listed a w := by
 have am_get : ∀ (i : Nat) (o : Oper), ops[i]? = some o → am.getD i 0 = amOf md o := by
  intro i o ho
  rw [← ham, List.getD_eq_getElem?_getD, List.getElem?_map, Array.getElem?_toList, ho]; rfl
 have am_len : am.length = ops.size := by rw [← ham]; simp
 have cf_get : ∀ (i : Nat) (o : Oper), ops[i]? = some o → cf.getD i 0 = cfOf md ops o i ops.toList 0 := by
  intro i o ho
  rw [← hcf, List.getD_eq_getElem?_getD, cfAll_get md ops ops.toList 0 i o (by rw [Array.getElem?_toList]; exact ho), Nat.zero_add]; rfl
 have is_ready : ∀ (i done : Nat) (listed : Array Bool) (o : Oper), Inv ops.size listed done → ops[i]? = some o → done.testBit i = false → (am.getD i 0 &&& done == am.getD i 0) = true → i ∈ Region.ready md ops listed := by
  intro i done listed o hI ho hd ha
  have hin : i < ops.size := (Array.getElem?_eq_some_iff.1 ho).1
  refine mem_ready.2 ⟨by rw [hI.getT hin]; exact hd, o, ho, fun e he hb => ?_⟩
  rw [hI.getF]
  rw [am_get i o ho] at ha
  exact sub_bits ha e.on ((amOf_bit md o e.on).2 ⟨e, he, hb, rfl⟩)
 have ready_is : ∀ (i done : Nat) (listed : Array Bool), Inv ops.size listed done → i ∈ Region.ready md ops listed → i < ops.size ∧ done.testBit i = false ∧ (am.getD i 0 &&& done == am.getD i 0) = true := by
  intro i done listed hI hr
  obtain ⟨h1, o, ho, h2⟩ := mem_ready.1 hr
  have hin : i < ops.size := (Array.getElem?_eq_some_iff.1 ho).1
  refine ⟨hin, by rw [← hI.getT hin]; exact h1, ?_⟩
  rw [am_get i o ho]
  refine bits_sub fun k hk => ?_
  obtain ⟨e, he, hb, rfl⟩ := (amOf_bit md o k).1 hk
  rw [← hI.getF]
  exact h2 e he hb
 intro l
 induction l with
 | nil =>
  intro done listed a w hI _ hk _ h
  refine ⟨?_, h⟩
  refine List.eq_nil_iff_forall_not_mem.2 fun i hi => ?_
  obtain ⟨h1, h2, _⟩ := ready_is i done listed hI hi
  have := List.all_eq_true.1 hk i (List.mem_range.2 h1)
  rw [h2] at this
  cases this
 | cons x l ih =>
  obtain ⟨i, k⟩ := x
  intro done listed a w hI hcl hk hS h
  unfold seqOkG at hk
  simp only [Bool.and_eq_true, decide_eq_true_eq, Bool.not_eq_true'] at hk
  obtain ⟨⟨⟨⟨⟨k1, k2⟩, k3⟩, k4⟩, k5⟩, k6⟩ := hk
  obtain ⟨o, ho, h⟩ := h
  have hr := is_ready i done listed o hI ho k2 k3
  have hI' := hI.set k1
  have hcl' := hcl.set hr
  have gbit : ∀ j, j ≠ g → (done ||| 2 ^ j).testBit g = done.testBit g := fun j hj => by
   rw [Nat.testBit_or, testBit_pow]
   simp [hj]
  have hfree : ¬ (k = 2 ∨ k = 4) → i ≠ g ∧ ∀ j oj, ops[j]? = some oj → j ≠ i → listed.getD j true = false → (∀ e ∈ oj.after, Region.binds md e = true → e.on ≠ i) → o.apart ops oj = true := by
   intro hk2
   rw [if_neg hk2] at k4
   simp only [Bool.and_eq_true, bne_iff_ne] at k4
   refine ⟨k4.2, ?_⟩
   intro j oj hj hji hun hno
   cases c : o.apart ops oj
   ·exfalso
    have hjn : j < ops.size := (Array.getElem?_eq_some_iff.1 hj).1
    have hb : (amOf md oj).testBit i = false := by
     cases e : (amOf md oj).testBit i
     ·rfl
     ·obtain ⟨x, hx, hxb, hxi⟩ := (amOf_bit md oj i).1 e
      exact absurd hxi (hno x hx hxb)
    have k4' := k4.1
    rw [cf_get i o ho] at k4'
    have := sub_bits k4' j (cfOf_bit md ops o i j oj hji hb c ops.toList 0 j (by rw [Array.getElem?_toList]; exact hj) (Nat.zero_add _))
    rw [hI.getT hjn, this] at hun
    cases hun
   ·rfl
  have only : (k = 2 ∨ k = 4) → ∀ j ∈ Region.ready md ops listed, j = i := by
   intro hk2 j hj
   rw [if_pos hk2] at k4
   obtain ⟨q1, q2, q3⟩ := ready_is j done listed hI hj
   have := List.all_eq_true.1 k4 j (List.mem_range.2 q1)
   rw [q2, q3] at this
   simpa using this
  have hSl : listed.getD g false = false → S w := fun hg => hS (by rw [← hI.getF]; exact hg)
  rw [List.length_cons]
  by_cases c0 : k = 0
  ·subst c0
   obtain ⟨hig, hfr⟩ := hfree (by omega)
   rw [if_pos rfl] at h k5
   simp only [Bool.and_eq_true] at k5
   obtain ⟨v, ⟨hw, hv⟩, h⟩ := h
   have hB := behind_of (g := g) am ham i (later.getD i 0) k5.1 k5.2 (Ne.symm hig) (by omega)
   obtain ⟨hg1, _⟩ := hB listed hcl (mem_ready.1 hr).1
   exact wpAnyG_first (T := S) ho (Region.noSelect_spec hs) hig (.inr ⟨fun _ h => h, hB⟩) (fun c a w h => hQ c a w _ _ h) l.length listed a w hcl hfr hr (Or.inl ⟨hw, hv⟩) (hSl hg1) hSl
    (ih _ _ _ _ hI' hcl' k6 (fun hg => hSl hg1) h)
  rw [if_neg c0] at h
  by_cases c1 : k = 1
  ·subst c1
   obtain ⟨hig, hfr⟩ := hfree (by omega)
   rw [if_pos rfl] at h
   exact wpAnyG_first (T := fun _ => True) ho (Region.noSelect_spec hs) hig (.inl fun _ => trivial) (fun c a w h => hQ c a w _ _ h) l.length listed a w hcl hfr hr (Or.inr ⟨h.1, rfl⟩) trivial hSl
    (ih _ _ _ _ hI' hcl' k6 (fun hg => hS (by rw [gbit i hig] at hg; exact hg)) h.2)
  rw [if_neg c1] at h
  by_cases c2 : k = 2
  ·subst c2
   rw [if_pos rfl] at h
   simp only [if_neg c0, if_true, Bool.and_eq_true, bne_iff_ne, Bool.not_eq_true'] at k5
   refine ⟨fun e => (by rw [e] at hr; cases hr), fun j hj => ?_⟩
   obtain rfl := only (Or.inl rfl) j hj
   exact wpOp_mono (fun a' w' h' => ⟨fun _ _ => h'.1, ih _ _ _ _ hI' hcl' k6 (fun _ => h'.1) h'.2⟩) h
  rw [if_neg c2] at h
  by_cases c3 : k = 3
  ·subst c3
   obtain ⟨hig, hfr⟩ := hfree (by omega)
   rw [if_pos rfl] at h
   obtain ⟨v, ⟨hw, hv⟩, h⟩ := h
   exact wpAnyG_first (T := fun _ => True) ho (Region.noSelect_spec hs) hig (.inl fun _ => trivial) (fun c a w h => hQ c a w _ _ h) l.length listed a w hcl hfr hr (Or.inl ⟨hw, fun w _ => hv w⟩) trivial hSl
    (ih _ _ _ _ hI' hcl' k6 (fun hg => hS (by rw [gbit i hig] at hg; exact hg)) h)
  rw [if_neg c3] at h
  obtain ⟨c4, h⟩ := h
  subst c4
  simp only [if_neg c0, if_neg c2, if_true, Bool.or_eq_true, beq_iff_eq] at k5
  refine ⟨fun e => (by rw [e] at hr; cases hr), fun j hj => ?_⟩
  obtain rfl := only (Or.inr rfl) j hj
  have hdone : (done ||| 2 ^ j).testBit g = true := by
   rw [Nat.testBit_or, testBit_pow]
   rcases k5 with rfl | k5
   ·simp
   ·rw [k5]; rfl
  have hls : listed.getD g false = false → j = g := fun hg => by
   rcases k5 with k5 | k5
   ·exact k5
   ·rw [hI.getF, k5] at hg; cases hg
  exact wpOp_mono (fun a' w' h' => ⟨fun hjg hg => absurd (hls hg) hjg, ih _ _ _ _ hI' hcl' k6 (fun hg => by rw [hdone] at hg; cases hg) h'⟩) h
theorem wp_region_gate {P : Program} {ops : Array Oper} {Q : Exit → Act → World → Prop} {S : World → Prop} {id : Nat} {a : Act} {w : World} (g : Nat) (l : List (Nat × Nat)) (am cf later : List Nat) (hm : P.follows .mixedOrders = true)
  (hk : (Region.noSelect ops && decide (l.length = ops.size) && decide (g < ops.size) && decide (ops.toList.map (amOf .any) = am) && decide (cfAll .any ops ops.toList 0 = cf) && seqOkG ops.size g am cf later l 0) = true)
  (hQ : ∀ c a w d v, Q (.panic c) (Act.put a d v) w → Q (.panic c) a w) (hS : S w.drew)
  (h : S w.drew → wpSeqG P ops Q S l a w.drew) : (Code.region id ops true).wp P Q a w := by
 simp only [Bool.and_eq_true, decide_eq_true_eq] at hk
 obtain ⟨⟨⟨⟨⟨h1, h2⟩, hg⟩, h3⟩, h4⟩, h5⟩ := hk
 refine wp_region_any hm ?_
 rw [← h2]
 refine wpAny_of_gate (S := S) (g := g) _ _ _ _ ?_
 have := wpAnyG_seq (P := P) (md := .any) (S := S) g am cf later hg h3 h4 h1 hQ l 0 (Array.replicate ops.size false) a w.drew (Inv.start _) (fun j oj hj hl => by
  rw [Array.getD_eq_getD_getElem?, Array.getElem?_replicate] at hl
  split at hl <;> simp at hl) h5 (fun _ => hS) (h hS)
 rw [h2] at this ⊢
 exact this
theorem wpSeqG_take {P : Program} {ops : Array Oper} {Q : Exit → Act → World → Prop} {S : World → Prop} {l : List (Nat × Nat)} {t : List Value} {df : List _} {w : World} {i d : Nat} {o : Oper} {v : Value}
  (ho : ops.toList[i]? = some o) (hd : o.dst = some d) (hw : Region.wanted o (yielded ops t.toArray) = true)
  (hy : ∀ w, S w → (execOp (Act.eval { tmps := t.toArray, defers := df }) o).run P w = .ok (.value v) w)
  (h : wpSeqG P ops Q S l { tmps := (t.set d v).toArray, defers := df } w) : wpSeqG P ops Q S ((i, 0) :: l) { tmps := t.toArray, defers := df } w := by
 refine ⟨o, by rw [← Array.getElem?_toList]; exact ho, ?_⟩
 rw [if_pos rfl]
 refine ⟨v, ⟨hw, hy⟩, ?_⟩
 have e : Act.put { tmps := t.toArray, defers := df } o.dst v = { tmps := (t.set d v).toArray, defers := df } := by
  rw [hd]; simp [Act.put]
 rw [e]
 exact h
theorem wpSeqG_free {P : Program} {ops : Array Oper} {Q : Exit → Act → World → Prop} {S : World → Prop} {l : List (Nat × Nat)} {t : List Value} {df : List _} {w : World} {i d : Nat} {o : Oper} {v : Value}
  (ho : ops.toList[i]? = some o) (hd : o.dst = some d) (hw : Region.wanted o (yielded ops t.toArray) = true)
  (hy : ∀ w, (execOp (Act.eval { tmps := t.toArray, defers := df }) o).run P w = .ok (.value v) w)
  (h : wpSeqG P ops Q S l { tmps := (t.set d v).toArray, defers := df } w) : wpSeqG P ops Q S ((i, 3) :: l) { tmps := t.toArray, defers := df } w := by
 refine ⟨o, by rw [← Array.getElem?_toList]; exact ho, ?_⟩
 rw [if_neg (by decide), if_neg (by decide), if_neg (by decide), if_pos rfl]
 refine ⟨v, ⟨hw, hy⟩, ?_⟩
 have e : Act.put { tmps := t.toArray, defers := df } o.dst v = { tmps := (t.set d v).toArray, defers := df } := by
  rw [hd]; simp [Act.put]
 rw [e]
 exact h
theorem wpSeqG_skip {P : Program} {ops : Array Oper} {Q : Exit → Act → World → Prop} {S : World → Prop} {l : List (Nat × Nat)} {t : List Value} {df : List _} {w : World} {i d : Nat} {o : Oper}
  (ho : ops.toList[i]? = some o) (hd : o.dst = some d) (hw : Region.wanted o (yielded ops t.toArray) = false) (ht : t.set d undef = t)
  (h : wpSeqG P ops Q S l { tmps := t.toArray, defers := df } w) : wpSeqG P ops Q S ((i, 1) :: l) { tmps := t.toArray, defers := df } w := by
 refine ⟨o, by rw [← Array.getElem?_toList]; exact ho, ?_⟩
 rw [if_neg (by decide), if_pos rfl]
 refine ⟨hw, ?_⟩
 have e : Act.put { tmps := t.toArray, defers := df } o.dst undef = { tmps := t.toArray, defers := df } := by
  rw [hd]; simp [Act.put, ht]
 rw [e]
 exact h
theorem wpSeqG_call {P : Program} {ops : Array Oper} {Q : Exit → Act → World → Prop} {S : World → Prop} {l : List (Nat × Nat)} {a : Act} {w : World} {i : Nat} {o : Oper}
  (ho : ops.toList[i]? = some o) (hw : Region.wanted o (yielded ops a.tmps) = true)
  (h : ∀ K' : Act → World → Prop, Shut (∀ a w, S w → (S w → wpSeqG P ops Q S l a w) → K' a w) → Oper.wp P o a w K' Q) : wpSeqG P ops Q S ((i, 2) :: l) a w := by
 rw [Array.getElem?_toList] at ho
 refine ⟨o, ho, ?_⟩
 rw [if_neg (by decide), if_neg (by decide), if_pos rfl]
 refine wpOp_step ho fun K' hK => ?_
 rw [if_pos hw]
 exact h K' fun a w hS h => hK a w ⟨hS, h hS⟩
theorem wpSeqG_gate {P : Program} {ops : Array Oper} {Q : Exit → Act → World → Prop} {S : World → Prop} {l : List (Nat × Nat)} {a : Act} {w : World} {i : Nat} {o : Oper}
  (ho : ops.toList[i]? = some o) (hw : Region.wanted o (yielded ops a.tmps) = true)
  (h : ∀ K' : Act → World → Prop, Shut (∀ a w, wpSeqG P ops Q S l a w → K' a w) → Oper.wp P o a w K' Q) : wpSeqG P ops Q S ((i, 4) :: l) a w := by
 rw [Array.getElem?_toList] at ho
 refine ⟨o, ho, ?_⟩
 rw [if_neg (by decide), if_neg (by decide), if_neg (by decide), if_neg (by decide)]
 refine ⟨rfl, wpOp_step ho fun K' hK => ?_⟩
 rw [if_pos hw]
 exact h K' fun a w h => hK a w h
theorem wpSeqG_done {P : Program} {ops : Array Oper} {Q : Exit → Act → World → Prop} {S : World → Prop} {a : Act} {w : World} (h : Q .normal a w) : wpSeqG P ops Q S [] a w := h
end Go.Proofs.YtalnfojaccfcjaaGreatDoor
namespace Go.Proofs.YtalnfojaccfcjaaGreatDoor
open Go.RowKit
def IsU8s (w : World) (v : Value) (bs : List UInt8) : Prop := ∃ ao cap b o, v = .slice ao bs.length cap ∧ IsB w ao cap b o bs
theorem spot_int {w : World} {p : Addr} {k : IntKind} {x : Int} (h : w.cell? p = some (.int k x)) : p.spot = none := by
 cases hsp : p.spot with
 | none => rfl
 | some x =>
  unfold World.cell? at h
  split at h
  ·simp [hsp] at h
  ·cases h
theorem IsU8s.keep {w w' : World} {v : Value} {bs : List UInt8} (h : IsU8s w v bs) (q : B w w') : IsU8s w' v bs := by
 obtain ⟨ao, cap, b, o, h1, h2⟩ := h
 exact ⟨ao, cap, b, o, h1, h2.keep q⟩
end Go.Proofs.YtalnfojaccfcjaaGreatDoor
namespace Go.Proofs.YtalnfojaccfcjaaGreatDoor
open Go.RowKit
def IsU32s (w : World) (v : Value) (l : List Nat) : Prop := ∃ ao cap, v = .slice ao l.length cap ∧ l.length ≤ 9223372036854775807 ∧ ∀ (i x : Nat), l[i]? = some x → x < 4294967296 ∧ ∃ b o, ao = some ⟨b, o, none⟩ ∧ w.cell? ⟨b, o + i, none⟩ = some (.int .u32 (x : Int))
theorem isU32s_nil (w : World) : IsU32s w (.slice none 0 0) [] := ⟨none, 0, rfl, by simp, fun i x h => by simp at h⟩
theorem isU32s_of {w : World} {a : Addr} {len cap : Nat} {zs : List Int} (h1 : len ≤ cap) (h2 : cap ≤ maxLen) (hz : zs.length = cap) (hc : ∀ i, i < zs.length → w.cell? (a.add i) = some (.int .u32 (zs.getD i 0))) (hw : ∀ n ∈ zs, (Lit.int .u32 n).wf = true) :
  IsU32s w (.slice (some a) len cap) ((zs.take len).map fun z => z.toNat) := by
 have hl : ((zs.take len).map fun z => z.toNat).length = len := by rw [List.length_map, List.length_take]; omega
 refine ⟨some a, cap, by rw [hl], by rw [hl]; unfold maxLen at h2; omega, fun i x hi => ?_⟩
 have hlt : i < len := by have := (List.getElem?_eq_some_iff.1 hi).1; omega
 have hlt' : i < zs.length := by omega
 have e : zs.getD i 0 = zs[i] := by rw [List.getD_eq_getElem?_getD, List.getElem?_eq_getElem hlt']; rfl
 have hm := hw _ (List.getElem_mem hlt')
 simp [Lit.wf, IntKind.min, IntKind.max, IntKind.signed, IntKind.bits] at hm
 have hcc := hc i hlt'
 rw [e] at hcc
 rw [List.getElem?_map, List.getElem?_take, if_pos hlt, List.getElem?_eq_getElem hlt'] at hi
 obtain rfl : (zs[i]).toNat = x := by simpa using hi
 have h0 := hc 0 (by omega)
 have hsp : a.spot = none := spot_int (k := .u32) (x := zs.getD 0 0) (by have e0 : a.add 0 = a := by unfold Addr.add; simp
                                                                         rw [← e0]; exact h0)
 have ea : a.add i = ⟨a.block, a.off + i, none⟩ := by
  unfold Addr.add
  split
  ·rename_i h; subst h; rw [Nat.add_zero, ← hsp]
  ·rfl
 rw [ea] at hcc
 refine ⟨by omega, a.block, a.off, by rw [← hsp], ?_⟩
 rw [hcc]
 congr 2
 omega
theorem IsU32s.keep {w w' : World} {v : Value} {l : List Nat} (h : IsU32s w v l) (q : B w w') : IsU32s w' v l := by
 obtain ⟨ao, cap, h1, h2, h3⟩ := h
 exact ⟨ao, cap, h1, h2, fun i x hi => let ⟨k1, b, o, k2, k3⟩ := h3 i x hi; ⟨k1, b, o, k2, q.keep k3⟩⟩
theorem IsU32s.form {w : World} {v : Value} {l : List Nat} (h : IsU32s w v l) : ∃ ao cap, v = .slice ao l.length cap := let ⟨ao, cap, h1, _⟩ := h; ⟨ao, cap, h1⟩
end Go.Proofs.YtalnfojaccfcjaaGreatDoor
