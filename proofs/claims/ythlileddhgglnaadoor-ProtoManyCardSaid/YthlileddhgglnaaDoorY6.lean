/-
 Contracts and what they rest on.
-/
import Derived.Test.YthlileddhgglnaaDoorChecked
import Derived.KernelRfl
import Derived.OwnWalk
import Derived.Laws.OwnMore
import Derived.Deep.AppendLies
import Derived.Test.YthlileddhgglnaaDoorY5
namespace Go.Proofs.YthlileddhgglnaaDoor
open Go.RowKit
section
variable {P : Program} {ops : Array Oper} {Q : Exit → Act → World → Prop} {md : Region.Mode} {S : World → Prop} {g : Nat}
def Closed (md : Region.Mode) (ops : Array Oper) (listed : Array Bool) : Prop :=
 ∀ j oj, ops[j]? = some oj → listed.getD j false = true → ∀ e ∈ oj.after, Region.binds md e = true → listed.getD e.on false = true
theorem getD_set_eq {listed : Array Bool} {i : Nat} (d : Bool) (h : i < listed.size) : (listed.setIfInBounds i true).getD i d = true := by
 rw [Array.getD_eq_getD_getElem?, Array.getElem?_setIfInBounds]; simp [h]
theorem getD_set_other {listed : Array Bool} {i k : Nat} (d : Bool) (h : i ≠ k) : (listed.setIfInBounds i true).getD k d = listed.getD k d := by
 rw [Array.getD_eq_getD_getElem?, Array.getD_eq_getD_getElem?, Array.getElem?_setIfInBounds, if_neg h]
theorem getD_set_grow {listed : Array Bool} {i k : Nat} (h : listed.getD k false = true) : (listed.setIfInBounds i true).getD k false = true := by
 by_cases e : i = k
 ·subst e
  by_cases c : i < listed.size
  ·exact getD_set_eq _ c
  ·rw [Array.getD_eq_getD_getElem?, Array.getElem?_eq_none (by omega)] at h; cases h
 ·rw [getD_set_other _ e]; exact h
theorem getD_flip {listed : Array Bool} {i : Nat} (h : listed.getD i true = false) : listed.getD i false = false := by
 by_cases c : i < listed.size
 ·simp [c] at h ⊢; exact h
 ·rw [Array.getD_eq_getD_getElem?, Array.getElem?_eq_none (by omega)] at h; cases h
theorem Closed.set {listed : Array Bool} (h : Closed md ops listed) {i : Nat} (hr : i ∈ Region.ready md ops listed) : Closed md ops (listed.setIfInBounds i true) := by
 intro j oj hj hl e he hb
 by_cases c : i = j
 ·subst c
  obtain ⟨_, o, ho, h2⟩ := mem_ready.1 hr
  obtain rfl := Option.some.inj (ho.symm.trans hj)
  exact getD_set_grow (h2 e he hb)
 ·rw [getD_set_other _ c] at hl
  exact getD_set_grow (h j oj hj hl e he hb)
def wpAnyG (P : Program) (md : Region.Mode) (ops : Array Oper) (Q : Exit → Act → World → Prop) (S : World → Prop) (g : Nat) : Nat → Array Bool → Act → World → Prop
 | 0, listed, a, w => Region.ready md ops listed = [] ∧ Q .normal a w
 | fuel + 1, listed, a, w =>
  (Region.ready md ops listed = [] → Q .normal a w) ∧
  ∀ i ∈ Region.ready md ops listed, wpOp P ops Q i (fun a' w' => (i ≠ g → listed.getD g false = false → S w') ∧ wpAnyG P md ops Q S g fuel (listed.setIfInBounds i true) a' w') a w
theorem wpAny_of_gate : ∀ (fuel : Nat) (listed : Array Bool) (a : Act) (w : World), wpAnyG P md ops Q S g fuel listed a w → wpAny P md ops Q fuel listed a w
 | 0, _, _, _, h => h
 | fuel + 1, _, _, _, h => ⟨h.1, fun i hi => wpOp_mono (fun a' w' h' => wpAny_of_gate fuel _ a' w' h'.2) (h.2 i hi)⟩
def Behind (md : Region.Mode) (ops : Array Oper) (i g : Nat) : Prop :=
 ∀ listed, Closed md ops listed → listed.getD i true = false → listed.getD g false = false ∧ g ∉ Region.ready md ops listed
theorem wpAnyG_first {i : Nat} {oi : Oper} {v : Value} {T : World → Prop} (hi : ops[i]? = some oi) (hsel : ∀ (j : Nat) (o : Oper) cs b, ops[j]? = some o → o.op ≠ .select cs b) (hig : i ≠ g)
  (hT : (∀ w, T w) ∨ ((∀ w, S w → T w) ∧ Behind md ops i g)) (hQ : ∀ c a w, Q (.panic c) (a.put oi.dst v) w → Q (.panic c) a w) :
  ∀ (fuel : Nat) (listed : Array Bool) (a : Act) (w : World), Closed md ops listed →
   (∀ j oj, ops[j]? = some oj → j ≠ i → listed.getD j true = false → (∀ e ∈ oj.after, Region.binds md e = true → e.on ≠ i) → oi.apart ops oj = true) →
   i ∈ Region.ready md ops listed → YieldsIf P ops T oi v a → T w → (listed.getD g false = false → S w) →
   wpAnyG P md ops Q S g fuel (listed.setIfInBounds i true) (a.put oi.dst v) w → wpAnyG P md ops Q S g (fuel + 1) listed a w := by
 intro fuel
 induction fuel with
 | zero =>
  intro listed a w _ _ hr hy hTw hSw H
  refine ⟨fun h => (by rw [h] at hr; cases hr), fun j hj => ?_⟩
  by_cases hji : j = i
  ·subst hji; exact hy.wpOp hi hTw ⟨fun _ h => hSw h, H⟩
  ·have := ready_mono hj hji
   rw [H.1] at this
   cases this
 | succ fuel ih =>
  intro listed a w hcl hfree hr hy hTw hSw H
  refine ⟨fun h => (by rw [h] at hr; cases hr), fun j hj => ?_⟩
  by_cases hji : j = i
  ·subst hji; exact hy.wpOp hi hTw ⟨fun _ h => hSw h, H⟩
  ·have h1 := H.2 j (ready_mono hj hji)
   obtain ⟨hjun, oj, hoj, hall⟩ := mem_ready.1 hj
   have hiun := (mem_ready.1 hr).1
   have hnot : ∀ e ∈ oj.after, Region.binds md e = true → e.on ≠ i := fun e he hb heq => by
    have h1 := hall e he hb
    rw [heq, getD_flip hiun] at h1
    cases h1
   have h2 := wpOp_putIf hoj (hfree j oj hoj hji hjun hnot) (fun cs b => hsel i oi cs b hi) (fun cs b => hsel j oj cs b hoj) hQ hy h1
   have hfree' : ∀ k ok, ops[k]? = some ok → k ≠ i → (listed.setIfInBounds j true).getD k true = false →
     (∀ e ∈ ok.after, Region.binds md e = true → e.on ≠ i) → oi.apart ops ok = true := fun k ok hk hki hun hno => by
    refine hfree k ok hk hki ?_ hno
    by_cases hjk : j = k
    ·subst hjk; exact hjun
    ·rw [getD_set_other true hjk] at hun; exact hun
   rw [getD_set_other _ hig] at h2
   refine wpOp_mono (fun a' w' h3 => ?_) h2
   have hS' : (listed.setIfInBounds j true).getD g false = false → S w' := fun h => by
    by_cases hjg : j = g
    ·subst hjg
     rw [getD_set_eq _ (by
      by_cases c : j < listed.size
      ·exact c
      ·rw [Array.getD_eq_getD_getElem?, Array.getElem?_eq_none (by omega)] at hjun; cases hjun)] at h
     cases h
    ·rw [getD_set_other _ hjg] at h
     exact h3.2.1 hjg h
   have hT' : T w' := by
    rcases hT with hT | ⟨hT, hB⟩
    ·exact hT w'
    ·obtain ⟨hg1, hg2⟩ := hB listed hcl hiun
     refine hT w' (h3.2.1 (fun e => hg2 (e ▸ hj)) hg1)
   refine ⟨fun h4 h5 => h3.2.1 h4 h5, ih (listed.setIfInBounds j true) a' w' (hcl.set hj) hfree' (ready_mono hr (Ne.symm hji)) h3.1 hT' hS' ?_⟩
   rw [Array.setIfInBounds_comm _ _ hji]
   exact h3.2.2
def laterOk (am : List Nat) (i later : Nat) : Bool :=
 (List.range am.length).all fun d => !later.testBit d || d == i || (List.range d).any fun e => later.testBit e && (am.getD d 0).testBit e
theorem later_unlisted (am : List Nat) (ham : ops.toList.map (amOf md) = am) (i later : Nat) (hl : laterOk am i later = true) (listed : Array Bool) (hcl : Closed md ops listed) (hi : listed.getD i false = false) :
  ∀ d, d < am.length → later.testBit d = true → listed.getD d false = false := by
 intro d
 induction d using Nat.strongRecOn with
 | _ d ih =>
  intro hd hb
  have h := List.all_eq_true.1 hl d (List.mem_range.2 hd)
  rw [hb] at h
  simp only [Bool.not_true, Bool.false_or, Bool.or_eq_true, beq_iff_eq, List.any_eq_true, List.mem_range, Bool.and_eq_true] at h
  rcases h with rfl | ⟨e, he, h1, h2⟩
  ·exact hi
  ·have hlen : am.length = ops.size := by rw [← ham]; simp
   obtain ⟨o, ho⟩ : ∃ o, ops[d]? = some o := ⟨_, Array.getElem?_eq_getElem (by omega)⟩
   have ea : am.getD d 0 = amOf md o := by
    rw [← ham, List.getD_eq_getElem?_getD, List.getElem?_map, Array.getElem?_toList, ho]; rfl
   rw [ea] at h2
   obtain ⟨x, hx, hxb, hxe⟩ := (amOf_bit md o e).1 h2
   cases c : listed.getD d false
   ·rfl
   ·have := hcl d o ho c x hx hxb
    rw [hxe, ih e he (by omega) h1] at this
    cases this
theorem behind_of (am : List Nat) (ham : ops.toList.map (amOf md) = am) (i later : Nat) (hl : laterOk am i later = true) (hg : later.testBit g = true) (hgi : g ≠ i) (hgn : g < am.length) : Behind md ops i g := by
 intro listed hcl hi
 refine ⟨later_unlisted am ham i later hl listed hcl (getD_flip hi) g hgn hg, fun hr => ?_⟩
 obtain ⟨_, o, ho, h2⟩ := mem_ready.1 hr
 have h := List.all_eq_true.1 hl g (List.mem_range.2 hgn)
 rw [hg] at h
 simp only [Bool.not_true, Bool.false_or, Bool.or_eq_true, beq_iff_eq, List.any_eq_true, List.mem_range, Bool.and_eq_true] at h
 rcases h with h | ⟨e, he, h1, h3⟩
 ·exact hgi h
 ·have ea : am.getD g 0 = amOf md o := by
   rw [← ham, List.getD_eq_getElem?_getD, List.getElem?_map, Array.getElem?_toList, ho]; rfl
  rw [ea] at h3
  obtain ⟨x, hx, hxb, hxe⟩ := (amOf_bit md o e).1 h3
  have h4 := h2 x hx hxb
  rw [hxe, later_unlisted am ham i later hl listed hcl (getD_flip hi) e (by omega) h1] at h4
  cases h4
end
def seqOkG (n g : Nat) (am cf later : List Nat) : List (Nat × Nat) → Nat → Bool
 | [], done => (List.range n).all done.testBit
 | (i, k) :: l, done => decide (i < n) && !done.testBit i && (am.getD i 0 &&& done == am.getD i 0) &&
   (if k = 2 ∨ k = 4 then (List.range n).all (fun j => j == i || done.testBit j || !(am.getD j 0 &&& done == am.getD j 0)) else (cf.getD i 0 &&& done == cf.getD i 0) && i != g) &&
   (if k = 0 then laterOk am i (later.getD i 0) && (later.getD i 0).testBit g else if k = 2 then i != g && !done.testBit g else if k = 4 then i == g || done.testBit g else true) && seqOkG n g am cf later l (done ||| 2 ^ i)
def wpSeqG (P : Program) (ops : Array Oper) (Q : Exit → Act → World → Prop) (S : World → Prop) : List (Nat × Nat) → Act → World → Prop
 | [], a, w => Q .normal a w
 | (i, k) :: l, a, w => ∃ o, ops[i]? = some o ∧
   (if k = 0 then ∃ v, (Region.wanted o (yielded ops a.tmps) = true ∧ ∀ w, S w → (execOp a.eval o).run P w = .ok (.value v) w) ∧ wpSeqG P ops Q S l (a.put o.dst v) w
   else if k = 1 then Region.wanted o (yielded ops a.tmps) = false ∧ wpSeqG P ops Q S l (a.put o.dst undef) w
   else if k = 2 then wpOp P ops Q i (fun a' w' => S w' ∧ wpSeqG P ops Q S l a' w') a w
   else if k = 3 then ∃ v, (Region.wanted o (yielded ops a.tmps) = true ∧ ∀ w, (execOp a.eval o).run P w = .ok (.value v) w) ∧ wpSeqG P ops Q S l (a.put o.dst v) w
   else k = 4 ∧ wpOp P ops Q i (fun a' w' => wpSeqG P ops Q S l a' w') a w)
theorem wpAnyG_seq {P : Program} {md : Region.Mode} {ops : Array Oper} {Q : Exit → Act → World → Prop} {S : World → Prop} (g : Nat) (am cf later : List Nat) (hgn : g < ops.size)
  (ham : ops.toList.map (amOf md) = am) (hcf : cfAll md ops ops.toList 0 = cf) (hs : Region.noSelect ops = true)
  (hQ : ∀ c a w d v, Q (.panic c) (Act.put a d v) w → Q (.panic c) a w) :
  ∀ (l : List (Nat × Nat)) (done : Nat) (listed : Array Bool) (a : Act) (w : World), Inv ops.size listed done → Closed md ops listed → seqOkG ops.size g am cf later l done = true → (done.testBit g = false → S w) →
   wpSeqG P ops Q S l a w → wpAnyG P md ops Q S g l.length listed a w := by
 have am_get : ∀ (i : Nat) (o : Oper), ops[i]? = some o → am.getD i 0 = amOf md o := by
  intro i o ho
  rw [← ham, List.getD_eq_getElem?_getD, List.getElem?_map, Array.getElem?_toList, ho]; rfl
 have am_len : am.length = ops.size := by rw [← ham]; simp
 have cf_get : ∀ (i : Nat) (o : Oper), ops[i]? = some o → cf.getD i 0 = cfOf md ops o i ops.toList 0 := by
  intro i o ho
  rw [← hcf, List.getD_eq_getElem?_getD, cfAll_get md ops ops.toList 0 i o (by rw [Array.getElem?_toList]; exact ho), Nat.zero_add]; rfl
 have is_ready : ∀ (i done : Nat) (listed : Array Bool) (o : Oper), Inv ops.size listed done → ops[i]? = some o → done.testBit i = false → (am.getD i 0 &&& done == am.getD i 0) = true → i ∈ Region.ready md ops listed := by
  intro i done listed o hI ho hd ha
  have hin : i < ops.size := (Array.getElem?_eq_some_iff.1 ho).1
  refine mem_ready.2 ⟨by rw [hI.getT hin]; exact hd, o, ho, fun e he hb => ?_⟩
  rw [hI.getF]
  rw [am_get i o ho] at ha
  exact sub_bits ha e.on ((amOf_bit md o e.on).2 ⟨e, he, hb, rfl⟩)
 have ready_is : ∀ (i done : Nat) (listed : Array Bool), Inv ops.size listed done → i ∈ Region.ready md ops listed → i < ops.size ∧ done.testBit i = false ∧ (am.getD i 0 &&& done == am.getD i 0) = true := by
  intro i done listed hI hr
  obtain ⟨h1, o, ho, h2⟩ := mem_ready.1 hr
  have hin : i < ops.size := (Array.getElem?_eq_some_iff.1 ho).1
  refine ⟨hin, by rw [← hI.getT hin]; exact h1, ?_⟩
  rw [am_get i o ho]
  refine bits_sub fun k hk => ?_
  obtain ⟨e, he, hb, rfl⟩ := (amOf_bit md o k).1 hk
  rw [← hI.getF]
  exact h2 e he hb
 intro l
 induction l with
 | nil =>
  intro done listed a w hI _ hk _ h
  refine ⟨?_, h⟩
  refine List.eq_nil_iff_forall_not_mem.2 fun i hi => ?_
  obtain ⟨h1, h2, _⟩ := ready_is i done listed hI hi
  have := List.all_eq_true.1 hk i (List.mem_range.2 h1)
  rw [h2] at this
  cases this
 | cons x l ih =>
  obtain ⟨i, k⟩ := x
  intro done listed a w hI hcl hk hS h
  unfold seqOkG at hk
  simp only [Bool.and_eq_true, decide_eq_true_eq, Bool.not_eq_true'] at hk
  obtain ⟨⟨⟨⟨⟨k1, k2⟩, k3⟩, k4⟩, k5⟩, k6⟩ := hk
  obtain ⟨o, ho, h⟩ := h
  have hr := is_ready i done listed o hI ho k2 k3
  have hI' := hI.set k1
  have hcl' := hcl.set hr
  have gbit : ∀ j, j ≠ g → (done ||| 2 ^ j).testBit g = done.testBit g := fun j hj => by
   rw [Nat.testBit_or, testBit_pow]
   simp [hj]
  have hfree : ¬ (k = 2 ∨ k = 4) → i ≠ g ∧ ∀ j oj, ops[j]? = some oj → j ≠ i → listed.getD j true = false → (∀ e ∈ oj.after, Region.binds md e = true → e.on ≠ i) → o.apart ops oj = true := by
   intro hk2
   rw [if_neg hk2] at k4
   simp only [Bool.and_eq_true, bne_iff_ne] at k4
   refine ⟨k4.2, ?_⟩
   intro j oj hj hji hun hno
   cases c : o.apart ops oj
   ·exfalso
    have hjn : j < ops.size := (Array.getElem?_eq_some_iff.1 hj).1
    have hb : (amOf md oj).testBit i = false := by
     cases e : (amOf md oj).testBit i
     ·rfl
     ·obtain ⟨x, hx, hxb, hxi⟩ := (amOf_bit md oj i).1 e
      exact absurd hxi (hno x hx hxb)
    have k4' := k4.1
    rw [cf_get i o ho] at k4'
    have := sub_bits k4' j (cfOf_bit md ops o i j oj hji hb c ops.toList 0 j (by rw [Array.getElem?_toList]; exact hj) (Nat.zero_add _))
    rw [hI.getT hjn, this] at hun
    cases hun
   ·rfl
  have only : (k = 2 ∨ k = 4) → ∀ j ∈ Region.ready md ops listed, j = i := by
   intro hk2 j hj
   rw [if_pos hk2] at k4
   obtain ⟨q1, q2, q3⟩ := ready_is j done listed hI hj
   have := List.all_eq_true.1 k4 j (List.mem_range.2 q1)
   rw [q2, q3] at this
   simpa using this
  have hSl : listed.getD g false = false → S w := fun hg => hS (by rw [← hI.getF]; exact hg)
  rw [List.length_cons]
  by_cases c0 : k = 0
  ·subst c0
   obtain ⟨hig, hfr⟩ := hfree (by omega)
   rw [if_pos rfl] at h k5
   simp only [Bool.and_eq_true] at k5
   obtain ⟨v, ⟨hw, hv⟩, h⟩ := h
   have hB := behind_of (g := g) am ham i (later.getD i 0) k5.1 k5.2 (Ne.symm hig) (by omega)
   obtain ⟨hg1, _⟩ := hB listed hcl (mem_ready.1 hr).1
   exact wpAnyG_first (T := S) ho (Region.noSelect_spec hs) hig (.inr ⟨fun _ h => h, hB⟩) (fun c a w h => hQ c a w _ _ h) l.length listed a w hcl hfr hr (Or.inl ⟨hw, hv⟩) (hSl hg1) hSl
    (ih _ _ _ _ hI' hcl' k6 (fun hg => hSl hg1) h)
  rw [if_neg c0] at h
  by_cases c1 : k = 1
  ·subst c1
   obtain ⟨hig, hfr⟩ := hfree (by omega)
   rw [if_pos rfl] at h
   exact wpAnyG_first (T := fun _ => True) ho (Region.noSelect_spec hs) hig (.inl fun _ => trivial) (fun c a w h => hQ c a w _ _ h) l.length listed a w hcl hfr hr (Or.inr ⟨h.1, rfl⟩) trivial hSl
    (ih _ _ _ _ hI' hcl' k6 (fun hg => hS (by rw [gbit i hig] at hg; exact hg)) h.2)
  rw [if_neg c1] at h
  by_cases c2 : k = 2
  ·subst c2
   rw [if_pos rfl] at h
   simp only [if_neg c0, if_true, Bool.and_eq_true, bne_iff_ne, Bool.not_eq_true'] at k5
   refine ⟨fun e => (by rw [e] at hr; cases hr), fun j hj => ?_⟩
   obtain rfl := only (Or.inl rfl) j hj
   exact wpOp_mono (fun a' w' h' => ⟨fun _ _ => h'.1, ih _ _ _ _ hI' hcl' k6 (fun _ => h'.1) h'.2⟩) h
  rw [if_neg c2] at h
  by_cases c3 : k = 3
  ·subst c3
   obtain ⟨hig, hfr⟩ := hfree (by omega)
   rw [if_pos rfl] at h
   obtain ⟨v, ⟨hw, hv⟩, h⟩ := h
   exact wpAnyG_first (T := fun _ => True) ho (Region.noSelect_spec hs) hig (.inl fun _ => trivial) (fun c a w h => hQ c a w _ _ h) l.length listed a w hcl hfr hr (Or.inl ⟨hw, fun w _ => hv w⟩) trivial hSl
    (ih _ _ _ _ hI' hcl' k6 (fun hg => hS (by rw [gbit i hig] at hg; exact hg)) h)
  rw [if_neg c3] at h
  obtain ⟨c4, h⟩ := h
  subst c4
  simp only [if_neg c0, if_neg c2, if_true, Bool.or_eq_true, beq_iff_eq] at k5
  refine ⟨fun e => (by rw [e] at hr; cases hr), fun j hj => ?_⟩
  obtain rfl := only (Or.inr rfl) j hj
  have hdone : (done ||| 2 ^ j).testBit g = true := by
   rw [Nat.testBit_or, testBit_pow]
   rcases k5 with rfl | k5
   ·simp
   ·rw [k5]; rfl
  have hls : listed.getD g false = false → j = g := fun hg => by
   rcases k5 with k5 | k5
   ·exact k5
   ·rw [hI.getF, k5] at hg; cases hg
  exact wpOp_mono (fun a' w' h' => ⟨fun hjg hg => absurd (hls hg) hjg, ih _ _ _ _ hI' hcl' k6 (fun hg => by rw [hdone] at hg; cases hg) h'⟩) h
theorem wp_region_gate {P : Program} {ops : Array Oper} {Q : Exit → Act → World → Prop} {S : World → Prop} {id : Nat} {a : Act} {w : World} (g : Nat) (l : List (Nat × Nat)) (am cf later : List Nat) (hm : P.follows .mixedOrders = true)
  (hk : (Region.noSelect ops && decide (l.length = ops.size) && decide (g < ops.size) && decide (ops.toList.map (amOf .any) = am) && decide (cfAll .any ops ops.toList 0 = cf) && seqOkG ops.size g am cf later l 0) = true)
  (hQ : ∀ c a w d v, Q (.panic c) (Act.put a d v) w → Q (.panic c) a w) (hS : S w.drew)
  (h : S w.drew → wpSeqG P ops Q S l a w.drew) : (Code.region id ops true).wp P Q a w := by
 simp only [Bool.and_eq_true, decide_eq_true_eq] at hk
 obtain ⟨⟨⟨⟨⟨h1, h2⟩, hg⟩, h3⟩, h4⟩, h5⟩ := hk
 refine wp_region_any hm ?_
 rw [← h2]
 refine wpAny_of_gate (S := S) (g := g) _ _ _ _ ?_
 have := wpAnyG_seq (P := P) (md := .any) (S := S) g am cf later hg h3 h4 h1 hQ l 0 (Array.replicate ops.size false) a w.drew (Inv.start _) (fun j oj hj hl => by
  rw [Array.getD_eq_getD_getElem?, Array.getElem?_replicate] at hl
  split at hl <;> simp at hl) h5 (fun _ => hS) (h hS)
 rw [h2] at this ⊢
 exact this
theorem wpSeqG_take {P : Program} {ops : Array Oper} {Q : Exit → Act → World → Prop} {S : World → Prop} {l : List (Nat × Nat)} {t : List Value} {df : List _} {w : World} {i d : Nat} {o : Oper} {v : Value}
  (ho : ops.toList[i]? = some o) (hd : o.dst = some d) (hw : Region.wanted o (yielded ops t.toArray) = true)
  (hy : ∀ w, S w → (execOp (Act.eval { tmps := t.toArray, defers := df }) o).run P w = .ok (.value v) w)
  (h : wpSeqG P ops Q S l { tmps := (t.set d v).toArray, defers := df } w) : wpSeqG P ops Q S ((i, 0) :: l) { tmps := t.toArray, defers := df } w := by
 refine ⟨o, by rw [← Array.getElem?_toList]; exact ho, ?_⟩
 rw [if_pos rfl]
 refine ⟨v, ⟨hw, hy⟩, ?_⟩
 have e : Act.put { tmps := t.toArray, defers := df } o.dst v = { tmps := (t.set d v).toArray, defers := df } := by
  rw [hd]; simp [Act.put]
 rw [e]
 exact h
theorem wpSeqG_free {P : Program} {ops : Array Oper} {Q : Exit → Act → World → Prop} {S : World → Prop} {l : List (Nat × Nat)} {t : List Value} {df : List _} {w : World} {i d : Nat} {o : Oper} {v : Value}
  (ho : ops.toList[i]? = some o) (hd : o.dst = some d) (hw : Region.wanted o (yielded ops t.toArray) = true)
  (hy : ∀ w, (execOp (Act.eval { tmps := t.toArray, defers := df }) o).run P w = .ok (.value v) w)
  (h : wpSeqG P ops Q S l { tmps := (t.set d v).toArray, defers := df } w) : wpSeqG P ops Q S ((i, 3) :: l) { tmps := t.toArray, defers := df } w := by
 refine ⟨o, by rw [← Array.getElem?_toList]; exact ho, ?_⟩
 rw [if_neg (by decide), if_neg (by decide), if_neg (by decide), if_pos rfl]
 refine ⟨v, ⟨hw, hy⟩, ?_⟩
 have e : Act.put { tmps := t.toArray, defers := df } o.dst v = { tmps := (t.set d v).toArray, defers := df } := by
  rw [hd]; simp [Act.put]
 rw [e]
 exact h
theorem wpSeqG_call {P : Program} {ops : Array Oper} {Q : Exit → Act → World → Prop} {S : World → Prop} {l : List (Nat × Nat)} {a : Act} {w : World} {i : Nat} {o : Oper}
  (ho : ops.toList[i]? = some o) (hw : Region.wanted o (yielded ops a.tmps) = true)
  (h : ∀ K' : Act → World → Prop, Shut (∀ a w, S w → (S w → wpSeqG P ops Q S l a w) → K' a w) → Oper.wp P o a w K' Q) : wpSeqG P ops Q S ((i, 2) :: l) a w := by
 rw [Array.getElem?_toList] at ho
 refine ⟨o, ho, ?_⟩
 rw [if_neg (by decide), if_neg (by decide), if_pos rfl]
 refine wpOp_step ho fun K' hK => ?_
 rw [if_pos hw]
 exact h K' fun a w hS h => hK a w ⟨hS, h hS⟩
theorem wpSeqG_gate {P : Program} {ops : Array Oper} {Q : Exit → Act → World → Prop} {S : World → Prop} {l : List (Nat × Nat)} {a : Act} {w : World} {i : Nat} {o : Oper}
  (ho : ops.toList[i]? = some o) (hw : Region.wanted o (yielded ops a.tmps) = true)
  (h : ∀ K' : Act → World → Prop, Shut (∀ a w, wpSeqG P ops Q S l a w → K' a w) → Oper.wp P o a w K' Q) : wpSeqG P ops Q S ((i, 4) :: l) a w := by
 rw [Array.getElem?_toList] at ho
 refine ⟨o, ho, ?_⟩
 rw [if_neg (by decide), if_neg (by decide), if_neg (by decide), if_neg (by decide)]
 refine ⟨rfl, wpOp_step ho fun K' hK => ?_⟩
 rw [if_pos hw]
 exact h K' fun a w h => hK a w h
theorem wpSeqG_done {P : Program} {ops : Array Oper} {Q : Exit → Act → World → Prop} {S : World → Prop} {a : Act} {w : World} (h : Q .normal a w) : wpSeqG P ops Q S [] a w := h
end Go.Proofs.YthlileddhgglnaaDoor
namespace Go.Proofs.YthlileddhgglnaaDoor
open Go.RowKit
set_option linter.unusedVariables false
theorem wellInfoP : (Tryd.prog.info? 49).map (fun i => (i.zero, i.size, i.bytes)) = some (some (.agg #[.string ⟨#[]⟩, .int .i64 0, .int .i64 0]), 3, 32) := by kernel_rfl
def kSt : List (Option TypeId) := [some 47, some 49]
def kWl : List (Option TypeId) := [some 49]
theorem own_slice {w : World} {base : Nat} {e : TypeId} {size n : Nat} {v : Value} {xs : List Value} (h : w.ownsRow base e size v n xs) : ∃ so sc, v = .slice so n sc := by
 rcases h.2 with ⟨h0, h1⟩ | ⟨g, cap, cur, rfl, _⟩
 ·exact ⟨none, 0, by rw [h0, h1]⟩
 ·exact ⟨_, _, rfl⟩
theorem far_ownU {w : World} {b2 : Nat} {e2 t : TypeId} {s2 n2 : Nat} {v2 : Value} {x2 : List Value} {i : Nat} {cs : Array Value} (ho : w.heap[i]? = some (.cells cs t (0, 0))) (h2 : w.ownsRow b2 e2 s2 v2 n2 x2) (he : t ≠ e2) : v2.ownBlock ≠ some i :=
 obj_apart ho h2 (fun e => he (by simpa [kindO] using e))
theorem own_tnU {K : List (Option TypeId)} {b base : Nat} {w w' : World} {e : TypeId} {size n : Nat} {v : Value} {xs : List Value} (h : w.ownsRow base e size v n xs) (t : Tn K b w w') (hK : some e ∉ K) : w'.ownsRow base e size v n xs := by
 refine ⟨h.1, ?_⟩
 rcases h.2 with hn | ⟨g, cap, cur, rfl, hb, hg, rest⟩
 ·exact .inl hn
 ·exact .inr ⟨g, cap, cur, rfl, hb, t.objc hg hK, rest⟩
theorem ownsRow_set {w : World} {base : Nat} {e : TypeId} {size n : Nat} {v : Value} {xs : List Value} (h : w.ownsRow base e size v n xs) {b : Nat} {cs : Array Value} {t : TypeId} (ho : w.heap[b]? = some (.cells cs t (0, 0))) (ht : t ≠ e) (k : Nat) (x : Value) : (w.setCell ⟨b, k, none⟩ x).ownsRow base e size v n xs :=
 own_tnU h (Tn.set (K := [some t]) (base := 0) (p := ⟨b, k, none⟩) (Tn.refl _ _ _) ho (by simp) (Nat.zero_le _) x) (by simp; exact fun h => ht h.symm)
structure StepU (w : World) (base b : Nat) (s : Sp) (wv : Value) : Prop where
 obj : w.heap[b]? = some (.cells #[.int .i64 s.k, .string s.n, wv, .int .i64 s.v, .int .i64 s.m] 47 (0, 0))
 row : w.ownsRow base 49 3 wv s.w.length (flatWp s.w)
theorem StepU.keep {w w' : World} {base b : Nat} {s : Sp} {wv : Value} (h : StepU w base b s wv) (q : B w w') : StepU w' base b s wv := ⟨q.obj h.obj, row_keep h.row q⟩
def Oth (b : Nat) (w w' : World) : Prop := ∀ i cs, i ≠ b → w.heap[i]? = some (.cells cs 47 (0, 0)) → w'.heap[i]? = some (.cells cs 47 (0, 0))
theorem Oth.refl (b : Nat) (w : World) : Oth b w w := fun _ _ _ h => h
theorem Oth.trans {b : Nat} {u v w : World} (h : Oth b u v) (k : Oth b v w) : Oth b u w := fun i cs hi ho => k i cs hi (h i cs hi ho)
theorem Oth.b (b : Nat) {w w' : World} (q : B w w') : Oth b w w' := fun _ _ _ h => q.obj h
theorem Oth.set (b : Nat) (w : World) (k : Nat) (x : Value) : Oth b w (w.setCell ⟨b, k, none⟩ x) := fun i _ hi h => (Below.heap_setCell w ⟨b, k, none⟩ x i hi).trans h
theorem Oth.grown (b : Nat) {w w' : World} {base : Nat} {e : TypeId} {size n : Nat} {v : Value} {xs : List Value} (hg : w.grownBy w' v.ownBlock) (hr : w.ownsRow base e size v n xs) (he : 47 ≠ e) : Oth b w w' := fun _ _ _ h => obj_grown hg h (far_ownU h hr he)
end Go.Proofs.YthlileddhgglnaaDoor
namespace Go.Proofs.YthlileddhgglnaaDoor
open Go.RowKit
theorem u8_wf {k : Int} (w : (Lit.int .u8 k).wf = true) : 0 ≤ k ∧ k ≤ 255 := by
 simp [Lit.wf, IntKind.min, IntKind.max, IntKind.signed, IntKind.bits] at w
 omega
theorem IsSecs.form {w : World} {v : Value} {l : List Sec} (h : IsSecs w v l) : ∃ ao n cap, v = .slice ao n cap := by
 rcases h with ⟨rfl, rfl⟩ | ⟨a, cap, rfl, _⟩
 ·exact ⟨_, _, _, rfl⟩
 ·exact ⟨_, _, _, rfl⟩
theorem news_plain {w : World} {cs : Array Value} {t : TypeId} {H : Nat} (hH : w.heap.size = H) : ∀ j u, cs.toList[j]? = some u → (w.alloc (.cells cs t)).cell? ((⟨H, 0, none⟩ : Addr).add j) = some u := by
 intro j u h
 rw [add0]
 subst hH
 rw [World.cell?_alloc_new]
 simpa using h
def TwoS (w : World) (b : Nat) : Prop := ∀ m : Nat, m < 2 → ∃ v l, w.cell? ⟨b, m, none⟩ = some v ∧ IsSecs w v l ∧ rightS l = true
theorem TwoS.keep {w w' : World} {b : Nat} (h : TwoS w b) (q : B w w') : TwoS w' b := fun m hm => by
 obtain ⟨v, l, h1, h2, h3⟩ := h m hm
 exact ⟨v, l, q.keep h1, h2.keepB q, h3⟩
end Go.Proofs.YthlileddhgglnaaDoor
namespace Go.Proofs.YthlileddhgglnaaDoor
open Go.RowKit
set_option linter.unusedVariables false
set_option maxRecDepth 100000 in
set_option maxHeartbeats 4000000 in
theorem take_any (Wb w : World) (hB : B Wb w) (b : Nat) (hb : Wb.heap.size ≤ b) (s : Sp) (wv : Value) (what : Nat) (hc : what ≤ 4) (t : List UInt8) (ht : t.length ≤ 65536) (hU : StepU w Wb.heap.size b s wv) (hl : s.w.length ≤ 1000) :
  Calls Tryd.prog 59 #[.pointer (some ⟨b, 0, none⟩), .int .i64 (what : Int), .string (strB t)] w fun e w' => e = .returned (.int .i64 (((takeP s what t).2 : Nat) : Int)) ∧ ((takeP s what t).2 = 0 → ∃ wv', StepU w' Wb.heap.size b (takeP s what t).1 wv') ∧ Tn kSt Wb.heap.size w w' ∧ Oth b w w' := by
 obtain ⟨i0, hi0, hz0, hz1, hz2⟩ := info_of wellInfoP
 obtain ⟨K, N, WS, V, M⟩ := s
 obtain ⟨ho, hr⟩ := hU
 simp only at ho hr hl
 obtain ⟨so, sc, rfl⟩ := own_slice hr
 have y1 := obj_cell ho 1
 have f1 := obj_free ho 1
 have y2 := obj_cell ho 2
 have y3 := obj_cell ho 3
 have f3 := obj_free ho 3
 have y4 := obj_cell ho 4
 have f4 := obj_free ho 4
 obtain ⟨TS, hTS⟩ : ∃ TS, strB t = TS := ⟨_, rfl⟩
 have h5 : what = 0 ∨ what = 1 ∨ what = 2 ∨ what = 3 ∨ what = 4 := by omega
 rcases h5 with rfl | rfl | rfl | rfl | rfl
 ·have hT : takeP ⟨K, N, WS, V, M⟩ 0 t = (⟨K, TS, WS, V, M⟩, if nameS TS then 0 else 25) := by rw [← hTS]; rfl
  have t1 : Tn kSt Wb.heap.size w (w.setCell ⟨b, 1, none⟩ (.string TS)) := Tn.set (p := ⟨b, 1, none⟩) (Tn.refl _ _ _) ho (by decide) hb _
  have hU1 : StepU (w.setCell ⟨b, 1, none⟩ (.string TS)) Wb.heap.size b ⟨K, TS, WS, V, M⟩ (.slice so WS.length sc) := ⟨by simpa using obj_set ho 1 (.string TS), ownsRow_set hr ho (by decide) _ _⟩
  have c1 := name_any TS (w.setCell ⟨b, 1, none⟩ (.string TS))
  have HH := Lib.hid (And.intro t1 (And.intro hU1 hT))
  rw [hTS]
  generalize nameS TS = ok at *
  have hu := fun w => unless_any ok 25 w
  obtain ⟨z9, hz9⟩ : ∃ z : Int, (if ok then 0 else 25) = z := ⟨_, rfl⟩
  rw [hz9] at hu
  replace hz9 := Lib.hid hz9
  clear hr ho hU1 t1 hT hTS y2 y3 y4 f3 f4
  go_enter Tryd.func59, Tryd.ntmps59
  go_wp2_with fail
  refine (Calls.mono c1 ?_)
  rintro _ w1 ⟨rfl, q1⟩
  clear c1
  go_wp2_with fail
  refine (Calls.mono (hu _) ?_)
  rintro _ w2 ⟨rfl, rfl⟩
  have HQ := Lib.hid q1
  clear hu
  clear q1 y1 f1
  go_wp2
  go_ret
  refine ⟨?_, fun _ => ?_, ?_⟩
  ·rw [HH.out.2.2, ← hz9.out]; cases ok <;> rfl
  ·rw [HH.out.2.2]; exact ⟨_, HH.out.2.1.keep HQ.out⟩
  ·exact ⟨HH.out.1.trans (HQ.out.tn _ _), (Oth.set b w 1 _).trans (Oth.b b HQ.out)⟩
 ·by_cases hk : t = kEach
  ·have e1 : (TS.toList == [101, 97, 99, 104]) = true := by rw [← hTS, strB_lst, hk]; rfl
   have hT : takeP ⟨K, N, WS, V, M⟩ 1 t = (⟨K, N, WS, V, 1⟩, 0) := by show (if t = kEach then _ else _, 0) = _; rw [if_pos hk]
   have t1 : Tn kSt Wb.heap.size w (w.setCell ⟨b, 4, none⟩ (.int .i64 1)) := Tn.set (p := ⟨b, 4, none⟩) (Tn.refl _ _ _) ho (by decide) hb _
   have hU1 : StepU (w.setCell ⟨b, 4, none⟩ (.int .i64 1)) Wb.heap.size b ⟨K, N, WS, V, 1⟩ (.slice so WS.length sc) := ⟨by simpa using obj_set ho 4 (.int .i64 1), ownsRow_set hr ho (by decide) _ _⟩
   have HH := Lib.hid (And.intro t1 (And.intro hU1 hT))
   rw [hTS]
   clear hr ho hU1 t1 hT hTS hk
   go_enter Tryd.func59, Tryd.ntmps59
   go_wp2
   go_ret
   exact ⟨by rw [HH.out.2.2]; rfl, fun _ => by rw [HH.out.2.2]; exact ⟨_, HH.out.2.1⟩, HH.out.1, Oth.set b w 4 _⟩
  ·have e1 : (TS.toList == [101, 97, 99, 104]) = false := by rw [← hTS, strB_lst, beq_eq_false_iff_ne]; exact hk
   have hT : takeP ⟨K, N, WS, V, M⟩ 1 t = (⟨K, N, WS, V, M⟩, 0) := by show (if t = kEach then _ else _, 0) = _; rw [if_neg hk]
   have HH := Lib.hid (And.intro (Tn.refl kSt Wb.heap.size w) (And.intro (show StepU w Wb.heap.size b ⟨K, N, WS, V, M⟩ (.slice so WS.length sc) from ⟨ho, hr⟩) hT))
   rw [hTS]
   clear hr ho hT hTS hk
   go_enter Tryd.func59, Tryd.ntmps59
   go_wp2
   go_ret
   exact ⟨by rw [HH.out.2.2]; rfl, fun _ => by rw [HH.out.2.2]; exact ⟨_, HH.out.2.1⟩, HH.out.1, Oth.refl b w⟩
 ·have c1 := wparse_any t w ht
  rw [hTS] at c1 ⊢
  clear hTS
  go_enter Tryd.func59, Tryd.ntmps59
  go_wp2_with fail
  refine (Calls.mono c1 ?_)
  clear c1
  rintro e w1 (⟨wn, wr, wc, hwl, rfl, q1⟩ | ⟨hwl, rfl, q1⟩)
  ·have hT : takeP ⟨K, N, WS, V, M⟩ 2 t = (⟨K, N, WS ++ [⟨strB wn, (wr : Int), (wc : Int)⟩], V, M⟩, 0) := by show (match wellL t with | some (n, r, q) => _ | none => _) = _; rw [hwl]
   have qA1 : B w (w1.alloc (.cells #[.string (strB wn), .int .i64 (wr : Int), .int .i64 (wc : Int)] 49)) := q1.alloc _ _
   have oW := obj_new w1 (.cells #[.string (strB wn), .int .i64 (wr : Int), .int .i64 (wc : Int)] 49)
   have oS3 := qA1.obj ho
   have hr3 := row_keep hr qA1
   go_wp2_with fail
   obtain ⟨W3, hW3⟩ : ∃ W3, w1.alloc (.cells #[.string (strB wn), .int .i64 (wr : Int), .int .i64 (wc : Int)] 49) = W3 := ⟨_, rfl⟩
   rw [hW3] at qA1 oW oS3 hr3
   have hS3 : W3.cell? ⟨b, 2, none⟩ = some (.slice so WS.length sc) ∧ W3.cell? ⟨w1.heap.size, 0, none⟩ = some (.string (strB wn)) ∧ W3.cell? ⟨w1.heap.size, 1, none⟩ = some (.int .i64 (wr : Int)) ∧ W3.cell? ⟨w1.heap.size, 2, none⟩ = some (.int .i64 (wc : Int)) := ⟨obj_cell oS3 2, obj_cell oW 0, obj_cell oW 1, obj_cell oW 2⟩
   have qA : B W3 (W3.alloc (.cells #[.string (strB wn), .int .i64 (wr : Int), .int .i64 (wc : Int)] 49)) := (B.refl _).alloc _ _
   have hown := row_keep hr3 qA
   have hbase : Wb.heap.size ≤ (W3.alloc (.cells #[.string (strB wn), .int .i64 (wr : Int), .int .i64 (wc : Int)] 49)).heap.size := by have h1 := hB.below.size; have h2 := qA1.below.size; have h3 := qA.below.size; omega
   clear hr ho y1 f1 y2 y3 f3 y4 f4
   try rw [hW3]
   refine wp_region_noPanic ?_
   refine wp_region_gate (S := fun w' => w'.cell? ⟨b, 2, none⟩ = some (.slice so WS.length sc) ∧ w'.cell? ⟨w1.heap.size, 0, none⟩ = some (.string (strB wn)) ∧ w'.cell? ⟨w1.heap.size, 1, none⟩ = some (.int .i64 (wr : Int)) ∧ w'.cell? ⟨w1.heap.size, 2, none⟩ = some (.int .i64 (wc : Int))) 7 [(0, 3), (1, 3), (2, 3), (3, 3), (4, 0), (5, 0), (6, 2), (7, 4), (8, 3), (9, 3), (10, 4)] [0, 0, 2, 4, 8, 0, 32, 80, 255, 511, 767] [0, 0, 2, 4, 8, 0, 32, 80, 1, 256, 640] [0, 0, 0, 0, 1936, 2016, 0, 0, 0, 0, 0] (by kernel_rfl) (by kernel_rfl) (fun _ _ _ _ _ h => h) ?_ (fun hH => ?_)
   ·exact hS3
   refine wpSeqG_free (d := 37) (v := ?_) rfl rfl (by kernel_rfl) (fun w => ?_) ?_
   rotate_left
   ·go_simp <;> with_reducible rfl
   dsimp only [sZ, sS]
   refine wpSeqG_free (d := 38) (v := ?_) rfl rfl (by kernel_rfl) (fun w => ?_) ?_
   rotate_left
   ·go_simp <;> with_reducible rfl
   dsimp only [sZ, sS]
   refine wpSeqG_free (d := 39) (v := ?_) rfl rfl (by kernel_rfl) (fun w => ?_) ?_
   rotate_left
   ·go_simp <;> with_reducible rfl
   dsimp only [sZ, sS]
   refine wpSeqG_free (d := 40) (v := ?_) rfl rfl (by kernel_rfl) (fun w => ?_) ?_
   rotate_left
   ·go_simp <;> with_reducible rfl
   dsimp only [sZ, sS]
   refine wpSeqG_take (d := 41) (v := ?_) rfl rfl (by kernel_rfl) (fun w hS => ?_) ?_
   rotate_left
   ·go_simp <;> with_reducible rfl
   dsimp only [sZ, sS]
   refine wpSeqG_take (d := 42) (v := ?_) rfl rfl (by kernel_rfl) (fun w hS => ?_) ?_
   rotate_left
   ·go_simp <;> with_reducible rfl
   dsimp only [sZ, sS]
   refine wpSeqG_call rfl (by kernel_rfl) (fun K hK => ?_)
   go_simp
   refine hK.out _ _ ?_ (fun hH => ?_)
   ·first | exact hS3 | exact ⟨((B.refl _).alloc _ _).keep hH.1, ((B.refl _).alloc _ _).keep hH.2.1, ((B.refl _).alloc _ _).keep hH.2.2.1, ((B.refl _).alloc _ _).keep hH.2.2.2⟩
   clear hK
   refine wpSeqG_gate rfl (by kernel_rfl) (fun K hK => ?_)
   refine wp_append_lies _ _ _ 45 rfl Wb.heap.size 49 i0 (.agg #[.string ⟨#[]⟩, .int .i64 0, .int .i64 0]) 3 32 (by kernel_rfl) hi0 hz0 hz1 hz2 rfl (by omega) _ _ _ rfl hown ⟨W3.heap.size, 0, none⟩ 1 1 [.string (strB wn), .int .i64 (wr : Int), .int .i64 (wc : Int)] rfl rfl (news_plain rfl) (by intro u hu; simp only [List.mem_cons, List.not_mem_nil, or_false] at hu; rcases hu with rfl | rfl | rfl <;> rfl) (by omega) (by unfold maxLen; omega) (by omega) hbase _ rfl ?_
   intro gN cN w9 hownN hgrowN hatN hltN
   have oS9 := obj_grown hgrowN (qA.obj oS3) (far_ownU (qA.obj oS3) hown (by decide))
   have s2 : w9.cell? ⟨b, 2, none⟩ = some (.slice so WS.length sc) := obj_cell oS9 2
   have sf := obj_free oS9 2
   try simp only [Act.put, List.setIfInBounds_toArray, List.set_cons_zero, List.set_cons_succ]
   refine hK.out _ _ ?_
   clear hK
   refine wpSeqG_free (d := 45) (v := ?_) rfl rfl (by kernel_rfl) (fun w => ?_) ?_
   rotate_left
   ·go_simp <;> with_reducible rfl
   dsimp only [sZ, sS]
   refine wpSeqG_free (d := 46) (v := ?_) rfl rfl (by kernel_rfl) (fun w => ?_) ?_
   rotate_left
   ·go_simp <;> with_reducible rfl
   dsimp only [sZ, sS]
   refine wpSeqG_gate rfl (by kernel_rfl) (fun K hK => ?_)
   go_simp
   refine hK.out _ _ ?_
   clear hK
   refine wpSeqG_done ?_
   refine NoPanic.normal ?_
   have HN := Lib.hid (And.intro hownN (And.intro hgrowN (And.intro oS9 (And.intro qA (And.intro qA1 (And.intro hT hown))))))
   clear hownN hgrowN oS9 hatN hltN hS3 qA qA1 hown hbase hr3 oS3 oW hT hB
   go_wp2_with fail
   refine (Calls.mono (unless_any _ _ _) ?_)
   rintro _ w2 ⟨rfl, rfl⟩
   clear s2 sf
   go_wp2
   go_ret
   have hN : w9.ownsRow Wb.heap.size 49 3 (.slice (some ⟨gN, 0, none⟩) (WS ++ [(⟨strB wn, (wr : Int), (wc : Int)⟩ : Wp)]).length cN) (WS ++ [(⟨strB wn, (wr : Int), (wc : Int)⟩ : Wp)]).length (flatWp (WS ++ [⟨strB wn, (wr : Int), (wc : Int)⟩])) := by
    rw [flatWp_snoc, List.length_append]
    exact HN.out.1
   refine ⟨by rw [HN.out.2.2.2.2.2.1]; rfl, fun _ => ?_, ?_⟩
   ·rw [HN.out.2.2.2.2.2.1]
    exact ⟨.slice (some ⟨gN, 0, none⟩) (WS ++ [(⟨strB wn, (wr : Int), (wc : Int)⟩ : Wp)]).length cN, (by simpa using obj_set HN.out.2.2.1 2 (.slice (some ⟨gN, 0, none⟩) (WS ++ [(⟨strB wn, (wr : Int), (wc : Int)⟩ : Wp)]).length cN)), ownsRow_set hN HN.out.2.2.1 (by decide) _ _⟩
   ·exact ⟨Tn.set (p := ⟨b, 2, none⟩) (Tn.appended (((HN.out.2.2.2.2.1.trans HN.out.2.2.2.1).drew).tn _ _) (World.ownsRow.drew HN.out.2.2.2.2.2.2) HN.out.2.1 (Nat.le_refl _) (by decide)) HN.out.2.2.1 (by decide) hb _, ((Oth.b b ((HN.out.2.2.2.2.1.trans HN.out.2.2.2.1).drew)).trans (Oth.grown b HN.out.2.1 (World.ownsRow.drew HN.out.2.2.2.2.2.2) (by decide))).trans (Oth.set b _ 2 _)⟩
  ·have hT : takeP ⟨K, N, WS, V, M⟩ 2 t = (⟨K, N, WS, V, M⟩, 26) := by show (match wellL t with | some (n, r, q) => _ | none => _) = _; rw [hwl]
   have qA1 : B w (w1.alloc (.cells #[.string ⟨#[]⟩, .int .i64 0, .int .i64 0] 49)) := q1.alloc _ _
   have oW := obj_new w1 (.cells #[.string ⟨#[]⟩, .int .i64 0, .int .i64 0] 49)
   have oS3 := qA1.obj ho
   have hr3 := row_keep hr qA1
   go_wp2_with fail
   obtain ⟨W3, hW3⟩ : ∃ W3, w1.alloc (.cells #[.string ⟨#[]⟩, .int .i64 0, .int .i64 0] 49) = W3 := ⟨_, rfl⟩
   rw [hW3] at qA1 oW oS3 hr3
   have hS3 : W3.cell? ⟨b, 2, none⟩ = some (.slice so WS.length sc) ∧ W3.cell? ⟨w1.heap.size, 0, none⟩ = some (.string ⟨#[]⟩) ∧ W3.cell? ⟨w1.heap.size, 1, none⟩ = some (.int .i64 0) ∧ W3.cell? ⟨w1.heap.size, 2, none⟩ = some (.int .i64 0) := ⟨obj_cell oS3 2, obj_cell oW 0, obj_cell oW 1, obj_cell oW 2⟩
   have qA : B W3 (W3.alloc (.cells #[.string ⟨#[]⟩, .int .i64 0, .int .i64 0] 49)) := (B.refl _).alloc _ _
   have hown := row_keep hr3 qA
   have hbase : Wb.heap.size ≤ (W3.alloc (.cells #[.string ⟨#[]⟩, .int .i64 0, .int .i64 0] 49)).heap.size := by have h1 := hB.below.size; have h2 := qA1.below.size; have h3 := qA.below.size; omega
   clear hr ho y1 f1 y2 y3 f3 y4 f4
   try rw [hW3]
   refine wp_region_noPanic ?_
   refine wp_region_gate (S := fun w' => w'.cell? ⟨b, 2, none⟩ = some (.slice so WS.length sc) ∧ w'.cell? ⟨w1.heap.size, 0, none⟩ = some (.string ⟨#[]⟩) ∧ w'.cell? ⟨w1.heap.size, 1, none⟩ = some (.int .i64 0) ∧ w'.cell? ⟨w1.heap.size, 2, none⟩ = some (.int .i64 0)) 7 [(0, 3), (1, 3), (2, 3), (3, 3), (4, 0), (5, 0), (6, 2), (7, 4), (8, 3), (9, 3), (10, 4)] [0, 0, 2, 4, 8, 0, 32, 80, 255, 511, 767] [0, 0, 2, 4, 8, 0, 32, 80, 1, 256, 640] [0, 0, 0, 0, 1936, 2016, 0, 0, 0, 0, 0] (by kernel_rfl) (by kernel_rfl) (fun _ _ _ _ _ h => h) ?_ (fun hH => ?_)
   ·exact hS3
   refine wpSeqG_free (d := 37) (v := ?_) rfl rfl (by kernel_rfl) (fun w => ?_) ?_
   rotate_left
   ·go_simp <;> with_reducible rfl
   dsimp only [sZ, sS]
   refine wpSeqG_free (d := 38) (v := ?_) rfl rfl (by kernel_rfl) (fun w => ?_) ?_
   rotate_left
   ·go_simp <;> with_reducible rfl
   dsimp only [sZ, sS]
   refine wpSeqG_free (d := 39) (v := ?_) rfl rfl (by kernel_rfl) (fun w => ?_) ?_
   rotate_left
   ·go_simp <;> with_reducible rfl
   dsimp only [sZ, sS]
   refine wpSeqG_free (d := 40) (v := ?_) rfl rfl (by kernel_rfl) (fun w => ?_) ?_
   rotate_left
   ·go_simp <;> with_reducible rfl
   dsimp only [sZ, sS]
   refine wpSeqG_take (d := 41) (v := ?_) rfl rfl (by kernel_rfl) (fun w hS => ?_) ?_
   rotate_left
   ·go_simp <;> with_reducible rfl
   dsimp only [sZ, sS]
   refine wpSeqG_take (d := 42) (v := ?_) rfl rfl (by kernel_rfl) (fun w hS => ?_) ?_
   rotate_left
   ·go_simp <;> with_reducible rfl
   dsimp only [sZ, sS]
   refine wpSeqG_call rfl (by kernel_rfl) (fun K hK => ?_)
   go_simp
   refine hK.out _ _ ?_ (fun hH => ?_)
   ·first | exact hS3 | exact ⟨((B.refl _).alloc _ _).keep hH.1, ((B.refl _).alloc _ _).keep hH.2.1, ((B.refl _).alloc _ _).keep hH.2.2.1, ((B.refl _).alloc _ _).keep hH.2.2.2⟩
   clear hK
   refine wpSeqG_gate rfl (by kernel_rfl) (fun K hK => ?_)
   refine wp_append_lies _ _ _ 45 rfl Wb.heap.size 49 i0 (.agg #[.string ⟨#[]⟩, .int .i64 0, .int .i64 0]) 3 32 (by kernel_rfl) hi0 hz0 hz1 hz2 rfl (by omega) _ _ _ rfl hown ⟨W3.heap.size, 0, none⟩ 1 1 [.string ⟨#[]⟩, .int .i64 0, .int .i64 0] rfl rfl (news_plain rfl) (by intro u hu; simp only [List.mem_cons, List.not_mem_nil, or_false] at hu; rcases hu with rfl | rfl | rfl <;> rfl) (by omega) (by unfold maxLen; omega) (by omega) hbase _ rfl ?_
   intro gN cN w9 hownN hgrowN hatN hltN
   have oS9 := obj_grown hgrowN (qA.obj oS3) (far_ownU (qA.obj oS3) hown (by decide))
   have s2 : w9.cell? ⟨b, 2, none⟩ = some (.slice so WS.length sc) := obj_cell oS9 2
   have sf := obj_free oS9 2
   try simp only [Act.put, List.setIfInBounds_toArray, List.set_cons_zero, List.set_cons_succ]
   refine hK.out _ _ ?_
   clear hK
   refine wpSeqG_free (d := 45) (v := ?_) rfl rfl (by kernel_rfl) (fun w => ?_) ?_
   rotate_left
   ·go_simp <;> with_reducible rfl
   dsimp only [sZ, sS]
   refine wpSeqG_free (d := 46) (v := ?_) rfl rfl (by kernel_rfl) (fun w => ?_) ?_
   rotate_left
   ·go_simp <;> with_reducible rfl
   dsimp only [sZ, sS]
   refine wpSeqG_gate rfl (by kernel_rfl) (fun K hK => ?_)
   go_simp
   refine hK.out _ _ ?_
   clear hK
   refine wpSeqG_done ?_
   refine NoPanic.normal ?_
   have HN := Lib.hid (And.intro hownN (And.intro hgrowN (And.intro oS9 (And.intro qA (And.intro qA1 (And.intro hT hown))))))
   clear hownN hgrowN oS9 hatN hltN hS3 qA qA1 hown hbase hr3 oS3 oW hT hB
   go_wp2_with fail
   refine (Calls.mono (unless_any _ _ _) ?_)
   rintro _ w2 ⟨rfl, rfl⟩
   clear s2 sf
   go_wp2
   go_ret
   refine ⟨by rw [HN.out.2.2.2.2.2.1]; rfl, fun h => ?_, ?_⟩
   ·rw [HN.out.2.2.2.2.2.1] at h; cases h
   ·exact ⟨Tn.set (p := ⟨b, 2, none⟩) (Tn.appended (((HN.out.2.2.2.2.1.trans HN.out.2.2.2.1).drew).tn _ _) (World.ownsRow.drew HN.out.2.2.2.2.2.2) HN.out.2.1 (Nat.le_refl _) (by decide)) HN.out.2.2.1 (by decide) hb _, ((Oth.b b ((HN.out.2.2.2.2.1.trans HN.out.2.2.2.1).drew)).trans (Oth.grown b HN.out.2.1 (World.ownsRow.drew HN.out.2.2.2.2.2.2) (by decide))).trans (Oth.set b _ 2 _)⟩
 ·have hT : takeP ⟨K, N, WS, V, M⟩ 3 t = if numP 20000000 t then (⟨K, N, WS, ((numV TS : Nat) : Int), M⟩, 0) else (⟨K, N, WS, V, M⟩, 20) := by rw [← hTS]; rfl
  have hnp : numP 20000000 t = (numOk TS && (decide (1 ≤ numV TS) && decide (numV TS ≤ 20000000))) := by unfold numP; rw [hTS, Bool.and_assoc]
  rw [hnp] at hT
  have c1 := pnumber_any TS 20000000 w
  rw [hTS]
  generalize (numOk TS && (decide (1 ≤ numV TS) && decide (numV TS ≤ 20000000))) = ok at *
  generalize numV TS = NV at *
  replace hT := Lib.hid hT
  have hu := fun w => unless_any ok 20 w
  obtain ⟨z9, hz9⟩ : ∃ z : Int, (if ok then 0 else 20) = z := ⟨_, rfl⟩
  rw [hz9] at hu
  replace hz9 := Lib.hid hz9
  clear hnp hTS
  go_enter Tryd.func59, Tryd.ntmps59
  go_wp2_with fail
  refine (Calls.mono c1 ?_)
  rintro _ w1 ⟨rfl, q1⟩
  have ho1 := q1.obj ho
  have g1 : w1.cell? ⟨b, 3, none⟩ = _ := obj_cell ho1 3
  have g2 := obj_free ho1 3
  have hU1 : StepU (w1.setCell ⟨b, 3, none⟩ (.int .i64 (NV : Int))) Wb.heap.size b ⟨K, N, WS, (NV : Int), M⟩ (.slice so WS.length sc) := ⟨by simpa using obj_set ho1 3 (.int .i64 (NV : Int)), ownsRow_set (row_keep hr q1) ho1 (by decide) _ _⟩
  have t1 : Tn kSt Wb.heap.size w (w1.setCell ⟨b, 3, none⟩ (.int .i64 (NV : Int))) := Tn.set (p := ⟨b, 3, none⟩) (q1.tn _ _) ho1 (by decide) hb _
  have HH := Lib.hid (And.intro t1 (And.intro hU1 q1))
  clear c1 hr ho hU1 t1 q1 ho1 y1 f1 y2 y3 f3 y4 f4
  go_wp2_with fail
  refine (Calls.mono (hu _) ?_)
  rintro _ w2 ⟨rfl, rfl⟩
  clear g1 g2 hu
  go_wp2
  go_ret
  refine ⟨?_, fun h => ?_, HH.out.1, (Oth.b b HH.out.2.2).trans (Oth.set b _ 3 _)⟩
  ·rw [hT.out, ← hz9.out]; cases ok <;> rfl
  ·rw [hT.out] at h ⊢
   cases ok
   ·cases h
   ·exact ⟨_, HH.out.2.1⟩
 ·have hT : takeP ⟨K, N, WS, V, M⟩ 4 t = if numP 20 t then (⟨K, N, WS, V, ((numV TS : Nat) : Int)⟩, 0) else (⟨K, N, WS, V, M⟩, 20) := by rw [← hTS]; rfl
  have hnp : numP 20 t = (numOk TS && (decide (1 ≤ numV TS) && decide (numV TS ≤ 20))) := by unfold numP; rw [hTS, Bool.and_assoc]
  rw [hnp] at hT
  have c1 := pnumber_any TS 20 w
  rw [hTS]
  generalize (numOk TS && (decide (1 ≤ numV TS) && decide (numV TS ≤ 20))) = ok at *
  generalize numV TS = NV at *
  replace hT := Lib.hid hT
  have hu := fun w => unless_any ok 20 w
  obtain ⟨z9, hz9⟩ : ∃ z : Int, (if ok then 0 else 20) = z := ⟨_, rfl⟩
  rw [hz9] at hu
  replace hz9 := Lib.hid hz9
  clear hnp hTS
  go_enter Tryd.func59, Tryd.ntmps59
  go_wp2_with fail
  refine (Calls.mono c1 ?_)
  rintro _ w1 ⟨rfl, q1⟩
  have ho1 := q1.obj ho
  have g1 : w1.cell? ⟨b, 4, none⟩ = _ := obj_cell ho1 4
  have g2 := obj_free ho1 4
  have hU1 : StepU (w1.setCell ⟨b, 4, none⟩ (.int .i64 (NV : Int))) Wb.heap.size b ⟨K, N, WS, V, (NV : Int)⟩ (.slice so WS.length sc) := ⟨by simpa using obj_set ho1 4 (.int .i64 (NV : Int)), ownsRow_set (row_keep hr q1) ho1 (by decide) _ _⟩
  have t1 : Tn kSt Wb.heap.size w (w1.setCell ⟨b, 4, none⟩ (.int .i64 (NV : Int))) := Tn.set (p := ⟨b, 4, none⟩) (q1.tn _ _) ho1 (by decide) hb _
  have HH := Lib.hid (And.intro t1 (And.intro hU1 q1))
  clear c1 hr ho hU1 t1 q1 ho1 y1 f1 y2 y3 f3 y4 f4
  go_wp2_with fail
  refine (Calls.mono (hu _) ?_)
  rintro _ w2 ⟨rfl, rfl⟩
  clear g1 g2 hu
  go_wp2
  go_ret
  refine ⟨?_, fun h => ?_, HH.out.1, (Oth.b b HH.out.2.2).trans (Oth.set b _ 4 _)⟩
  ·rw [hT.out, ← hz9.out]; cases ok <;> rfl
  ·rw [hT.out] at h ⊢
   cases ok
   ·cases h
   ·exact ⟨_, HH.out.2.1⟩
end Go.Proofs.YthlileddhgglnaaDoor
namespace Go.Proofs.YthlileddhgglnaaDoor
open Go.RowKit
theorem obj_five {w : World} {b : Nat} {a0 a1 a2 a3 a4 : Value} {t : TypeId} (h : w.heap[b]? = some (.cells #[a0, a1, a2, a3, a4] t (0, 0))) (x0 x1 x2 x3 x4 : Value) :
  (((((w.setCell ⟨b, 0, none⟩ x0).setCell ⟨b, 1, none⟩ x1).setCell ⟨b, 2, none⟩ x2).setCell ⟨b, 3, none⟩ x3).setCell ⟨b, 4, none⟩ x4).heap[b]? = some (.cells #[x0, x1, x2, x3, x4] t (0, 0)) := by
 have := obj_set (obj_set (obj_set (obj_set (obj_set h 0 x0) 1 x1) 2 x2) 3 x3) 4 x4
 simpa using this
theorem b_five {u w : World} (h : B u w) {b : Nat} (hb : u.heap.size ≤ b) (x0 x1 x2 x3 x4 : Value) :
  B u (((((w.setCell ⟨b, 0, none⟩ x0).setCell ⟨b, 1, none⟩ x1).setCell ⟨b, 2, none⟩ x2).setCell ⟨b, 3, none⟩ x3).setCell ⟨b, 4, none⟩ x4) :=
 B.setCell (p := ⟨b, 4, none⟩) (B.setCell (p := ⟨b, 3, none⟩) (B.setCell (p := ⟨b, 2, none⟩) (B.setCell (p := ⟨b, 1, none⟩) (B.setCell (p := ⟨b, 0, none⟩) h hb _) hb _) hb _) hb _) hb _
end Go.Proofs.YthlileddhgglnaaDoor
