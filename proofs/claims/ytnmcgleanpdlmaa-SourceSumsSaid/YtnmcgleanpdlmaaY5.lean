/-
  Layer 11: a list in new memory: append onto nil of what comes in; Regions that draw their order and end by changing what they have read ('t.l = append(t.l, f(t.l[n]))'): one operation is the gate; ahead of it a condition S holds, behind it nothing is asked. One order is walked. No program is named here; Layer 11: a deck in new memory; A shape's key, as bytes: two shapes have one just if they are the same. No program is named here; Layer 6: a cache in memory: its counts, its map, its entries; Bytes made of a string: nothing that was there turns; Contracts: the code's Name, the document's Number.
-/
import Derived.Test.YtnmcgleanpdlmaaChecked
import Derived.Lib.ConvBytes
import Derived.Lib.ItoaMem
import Derived.Lib.ItoaLen
import Derived.Maps.OwnSet
import Derived.Maps.Views
import Derived.Maps.AppendAt
import Derived.Test.YtnmcgleanpdlmaaY1
import Derived.Test.YtnmcgleanpdlmaaY2
import Derived.Test.YtnmcgleanpdlmaaY3
import Derived.Test.YtnmcgleanpdlmaaY4
namespace Go.Proofs.Ytnmcgleanpdlmaa
open Go.RowKit
set_option linter.unusedVariables false
theorem secs_in {w : World} {v : Value} {l : List Sec} (h : IsSecs w v l) : RowIn w v l.length (flat l) := by
  rcases h with ⟨rfl, rfl⟩ | ⟨a, cap, rfl, h2, h3, h4⟩
  · exact .inl ⟨rfl, rfl, rfl⟩
  · exact .inr ⟨a, cap, rfl, secs_news h4⟩
theorem secs_I {w : World} {v : Value} {l : List Sec} (h : IsSecs w v l) : ∀ s ∈ l, s.I := by
  rcases h with ⟨rfl, rfl⟩ | ⟨a, cap, rfl, h2, h3, h4⟩
  · simp
  · intro s hs
    obtain ⟨i, hi⟩ := List.getElem?_of_mem hs
    exact (h4 i s hi).1
theorem fls_in {w : World} {v : Value} {L : List Fl} (h : IsFls w v L) : RowIn w v L.length (flatF L) := by
  rcases h with ⟨rfl, rfl⟩ | ⟨a, cap, rfl, h2, h3, h4⟩
  · exact .inl ⟨rfl, rfl, rfl⟩
  · refine .inr ⟨a, cap, rfl, fun j u hj => ?_⟩
    have hlt : j < (flatF L).length := (List.getElem?_eq_some_iff.1 hj).1
    rw [flatF_len] at hlt
    obtain ⟨i, r, rfl, hr⟩ : ∃ i r, j = i * 4 + r ∧ r < 4 := ⟨j / 4, j % 4, by omega, by omega⟩
    have hi : i < L.length := by omega
    have hg := List.getElem?_eq_getElem hi
    have hs := h4 i _ hg
    rw [flatF_get L i r _ hg hr] at hj
    match r, hr with
    | 0, _ => simp only [Fl.cells, List.getElem?_cons_zero, Option.some.injEq] at hj; rw [Nat.add_zero, ← hj]; exact hs.n
    | 1, _ => rw [add_more _ _ _ (by omega), hs.r]; exact hj
    | 2, _ => rw [add_more _ _ _ (by omega), hs.c]; exact hj
    | 3, _ => rw [add_more _ _ _ (by omega), hs.v]; exact hj
theorem flatF_one (L : List Fl) : ∀ u ∈ flatF L, u.oneCell' = true := by
  intro u hu
  obtain ⟨f, _, hf⟩ := List.mem_flatMap.1 hu
  simp only [Fl.cells, List.mem_cons, List.not_mem_nil, or_false] at hf
  rcases hf with rfl | rfl | rfl | rfl <;> rfl
/-- The shapes' slices of records in memory. -/
theorem recs_vs {w : World} {v : Value} {L : List Rec} (h : IsRecs w v L) : ∃ vs : List Value, vs.length = L.length ∧ (∀ (i : Nat) r u, L[i]? = some r → vs[i]? = some u → IsSecs w u r.l) ∧ RowIn w v L.length (flatR L vs) := by
  rcases h with ⟨rfl, rfl⟩ | ⟨a, cap, rfl, h2, h3, h4⟩
  · exact ⟨[], rfl, fun i r u h => by simp at h, .inl ⟨rfl, rfl, rfl⟩⟩
  · clear h2 h3
    have hex : ∀ i : Nat, ∃ u, ∀ r, L[i]? = some r → w.cell? ⟨(a.add (i * 5)).block, (a.add (i * 5)).off + 4, none⟩ = some u ∧ IsSecs w u r.l := fun i => by
      cases hr : L[i]? with
      | none => exact ⟨.bool false, fun r h => by cases h⟩
      | some r =>
        obtain ⟨u, h1, h2⟩ := (h4 i r hr).l
        exact ⟨u, fun r' h => by obtain rfl := Option.some.inj h; exact ⟨h1, h2⟩⟩
    have hvs : ∃ f : Nat → Value, ∀ i r, L[i]? = some r → w.cell? ⟨(a.add (i * 5)).block, (a.add (i * 5)).off + 4, none⟩ = some (f i) ∧ IsSecs w (f i) r.l := ⟨fun i => Classical.choose (hex i), fun i => Classical.choose_spec (hex i)⟩
    obtain ⟨f, hf⟩ := hvs
    refine ⟨(List.range L.length).map f, by simp, fun i r u hr hu => ?_, .inr ⟨a, cap, rfl, fun j u hj => ?_⟩⟩
    · have hi : i < L.length := (List.getElem?_eq_some_iff.1 hr).1
      rw [List.getElem?_map, List.getElem?_range hi] at hu
      obtain rfl := Option.some.inj hu
      exact (hf i r hr).2
    · have hlt : j < (flatR L ((List.range L.length).map f)).length := (List.getElem?_eq_some_iff.1 hj).1
      rw [flatR_len _ _ (by simp)] at hlt
      obtain ⟨i, r, rfl, hr⟩ : ∃ i r, j = i * 5 + r ∧ r < 5 := ⟨j / 5, j % 5, by omega, by omega⟩
      have hi : i < L.length := by omega
      have hg := List.getElem?_eq_getElem hi
      have hs := h4 i _ hg
      have hl := (hf i _ hg).1
      rw [flatR_get L ((List.range L.length).map f) i r _ (f i) hg (by rw [List.getElem?_map, List.getElem?_range hi]; rfl) hr] at hj
      match r, hr with
      | 0, _ => simp only [Rec.cells, List.getElem?_cons_zero, Option.some.injEq] at hj; rw [Nat.add_zero, ← hj]; exact hs.n
      | 1, _ => rw [add_more _ _ _ (by omega), hs.x]; exact hj
      | 2, _ => rw [add_more _ _ _ (by omega), hs.y]; exact hj
      | 3, _ => rw [add_more _ _ _ (by omega), hs.z]; exact hj
      | 4, _ => rw [add_more _ _ _ (by omega), hl]; exact hj
theorem flatR_one : ∀ (L : List Rec) (vs : List Value), (∀ v ∈ vs, v.oneCell' = true) → ∀ u ∈ flatR L vs, u.oneCell' = true
  | [], _, _, u, hu => by simp [flatR] at hu
  | _ :: _, [], _, u, hu => by simp [flatR] at hu
  | r :: L, v :: vs, h, u, hu => by
    rcases List.mem_append.1 (show u ∈ r.cells v ++ flatR L vs from hu) with hu | hu
    · simp only [Rec.cells, List.mem_cons, List.not_mem_nil, or_false] at hu
      rcases hu with rfl | rfl | rfl | rfl | rfl
      · rfl
      · rfl
      · rfl
      · rfl
      · exact h _ (by simp)
    · exact flatR_one L vs (fun x hx => h x (by simp [hx])) u hu
theorem vs_one {w : World} {L : List Rec} {vs : List Value} (hl : vs.length = L.length) (h : ∀ (i : Nat) r u, L[i]? = some r → vs[i]? = some u → IsSecs w u r.l) : ∀ v ∈ vs, v.oneCell' = true := by
  intro v hv
  obtain ⟨i, hi, rfl⟩ := List.getElem_of_mem hv
  obtain ⟨ao, m, cap, e⟩ := (h i _ _ (List.getElem?_eq_getElem (by omega)) (List.getElem?_eq_getElem hi)).form
  rw [e]
  rfl
theorem lsec_info : (Try.prog.info? 102).map (fun i => (i.zero, i.size, i.bytes)) = some (some (.agg #[.bool false, .int .i64 0, .int .i64 0, .int .i64 0, .int .i64 0, .int .i64 0]), 6, 48) := by kernel_rfl
set_option maxRecDepth 100000 in
set_option maxHeartbeats 1000000 in
theorem lsec_any (v : Value) (l : List Sec) (w : World) (h : IsSecs w v l) (h100 : l.length ≤ 1000000) : Calls Try.prog 60 #[v] w fun r w' => ∃ o c, r = .returned (.slice o l.length c) ∧ w'.ownsRow w.heap.size 102 6 (.slice o l.length c) l.length (flat l) ∧ B w w' := by
  obtain ⟨i0, hi0, hz0, hz1, hz2⟩ := info_of lsec_info
  have hin := secs_in h
  obtain ⟨ao, cap, rfl⟩ := hin.form
  have hl1 := flat_len l
  have hl2 := flat_one l
  generalize flat l = XS at *
  obtain ⟨m, hm⟩ : ∃ m, l.length = m := ⟨_, rfl⟩
  rw [hm] at hin hl1 h100 ⊢
  have z1 : m ≤ maxLen := by unfold maxLen; omega
  have z2 : m * 48 ≤ 140737488355328 := by omega
  clear hm
  go_enter Try.func60, Try.ntmps60
  go_wp2_with (at_builtin; refine wpList_copy _ rfl _ _ 57 rfl 102 i0 _ 6 48 Try.underlying57 hi0 hz0 hz1 hz2 rfl (by omega) _ rfl rfl m XS hin hl1 hl2 z1 z2 ?_; intro oN cN w2 hown hq)
  go_ret
  exact ⟨oN, cN, rfl, hown, hq⟩
theorem lware_info : (Try.prog.info? 64).map (fun i => (i.zero, i.size, i.bytes)) = some (some (.agg #[.string ⟨#[]⟩, .int .i64 0, .int .i64 0, .int .i64 0, .slice none 0 0]), 5, 64) := by kernel_rfl
set_option maxRecDepth 100000 in
set_option maxHeartbeats 1000000 in
theorem lware_any (v : Value) (L : List Rec) (vs : List Value) (w : World) (h : RowIn w v L.length (flatR L vs)) (hvl : vs.length = L.length) (hv1 : ∀ v ∈ vs, v.oneCell' = true) (h100 : L.length ≤ 1000000) : Calls Try.prog 57 #[v] w fun r w' => ∃ o c, r = .returned (.slice o L.length c) ∧ w'.ownsRow w.heap.size 64 5 (.slice o L.length c) L.length (flatR L vs) ∧ B w w' := by
  obtain ⟨i0, hi0, hz0, hz1, hz2⟩ := info_of lware_info
  have hin := h
  obtain ⟨ao, cap, rfl⟩ := hin.form
  have hl1 := flatR_len L vs hvl.symm
  have hl2 := flatR_one L vs hv1
  generalize flatR L vs = XS at *
  obtain ⟨m, hm⟩ : ∃ m, L.length = m := ⟨_, rfl⟩
  rw [hm] at hin hl1 h100 ⊢
  have z1 : m ≤ maxLen := by unfold maxLen; omega
  have z2 : m * 64 ≤ 140737488355328 := by omega
  clear hm
  go_enter Try.func57, Try.ntmps57
  go_wp2_with (at_builtin; refine wpList_copy _ rfl _ _ 35 rfl 64 i0 _ 5 64 Try.underlying35 hi0 hz0 hz1 hz2 rfl (by omega) _ rfl rfl m XS hin hl1 hl2 z1 z2 ?_; intro oN cN w2 hown hq)
  go_ret
  exact ⟨oN, cN, rfl, hown, hq⟩
theorem ltip_info : (Try.prog.info? 59).map (fun i => (i.zero, i.size, i.bytes)) = some (some (.agg #[.string ⟨#[]⟩, .int .i64 0, .int .i64 0, .int .i64 0, .slice none 0 0]), 5, 64) := by kernel_rfl
set_option maxRecDepth 100000 in
set_option maxHeartbeats 1000000 in
theorem ltip_any (v : Value) (L : List Rec) (vs : List Value) (w : World) (h : RowIn w v L.length (flatR L vs)) (hvl : vs.length = L.length) (hv1 : ∀ v ∈ vs, v.oneCell' = true) (h100 : L.length ≤ 1000000) : Calls Try.prog 58 #[v] w fun r w' => ∃ o c, r = .returned (.slice o L.length c) ∧ w'.ownsRow w.heap.size 59 5 (.slice o L.length c) L.length (flatR L vs) ∧ B w w' := by
  obtain ⟨i0, hi0, hz0, hz1, hz2⟩ := info_of ltip_info
  have hin := h
  obtain ⟨ao, cap, rfl⟩ := hin.form
  have hl1 := flatR_len L vs hvl.symm
  have hl2 := flatR_one L vs hv1
  generalize flatR L vs = XS at *
  obtain ⟨m, hm⟩ : ∃ m, L.length = m := ⟨_, rfl⟩
  rw [hm] at hin hl1 h100 ⊢
  have z1 : m ≤ maxLen := by unfold maxLen; omega
  have z2 : m * 64 ≤ 140737488355328 := by omega
  clear hm
  go_enter Try.func58, Try.ntmps58
  go_wp2_with (at_builtin; refine wpList_copy _ rfl _ _ 36 rfl 59 i0 _ 5 64 Try.underlying36 hi0 hz0 hz1 hz2 rfl (by omega) _ rfl rfl m XS hin hl1 hl2 z1 z2 ?_; intro oN cN w2 hown hq)
  go_ret
  exact ⟨oN, cN, rfl, hown, hq⟩
theorem lfill_info : (Try.prog.info? 66).map (fun i => (i.zero, i.size, i.bytes)) = some (some (.agg #[.string ⟨#[]⟩, .int .i64 0, .int .i64 0, .int .i64 0]), 4, 40) := by kernel_rfl
set_option maxRecDepth 100000 in
set_option maxHeartbeats 1000000 in
theorem lfill_any (v : Value) (L : List Fl) (w : World) (h : IsFls w v L) (h100 : L.length ≤ 1000000) : Calls Try.prog 59 #[v] w fun r w' => ∃ o c, r = .returned (.slice o L.length c) ∧ w'.ownsRow w.heap.size 66 4 (.slice o L.length c) L.length (flatF L) ∧ B w w' := by
  obtain ⟨i0, hi0, hz0, hz1, hz2⟩ := info_of lfill_info
  have hin := fls_in h
  obtain ⟨ao, cap, rfl⟩ := hin.form
  have hl1 := flatF_len L
  have hl2 := flatF_one L
  generalize flatF L = XS at *
  obtain ⟨m, hm⟩ : ∃ m, L.length = m := ⟨_, rfl⟩
  rw [hm] at hin hl1 h100 ⊢
  have z1 : m ≤ maxLen := by unfold maxLen; omega
  have z2 : m * 40 ≤ 140737488355328 := by omega
  clear hm
  go_enter Try.func59, Try.ntmps59
  go_wp2_with (at_builtin; refine wpList_copy _ rfl _ _ 37 rfl 66 i0 _ 4 40 Try.underlying37 hi0 hz0 hz1 hz2 rfl (by omega) _ rfl rfl m XS hin hl1 hl2 z1 z2 ?_; intro oN cN w2 hown hq)
  go_ret
  exact ⟨oN, cN, rfl, hown, hq⟩
end Go.Proofs.Ytnmcgleanpdlmaa

namespace Go.Proofs.Ytnmcgleanpdlmaa
open Go.RowKit
section
variable {P : Program} {ops : Array Oper} {Q : Exit → Act → World → Prop} {md : Region.Mode} {S : World → Prop} {g : Nat}
/-- Nothing has come up ahead of what it waits for. -/
def Closed (md : Region.Mode) (ops : Array Oper) (listed : Array Bool) : Prop :=
  ∀ j oj, ops[j]? = some oj → listed.getD j false = true → ∀ e ∈ oj.after, Region.binds md e = true → listed.getD e.on false = true
theorem getD_set_eq {listed : Array Bool} {i : Nat} (d : Bool) (h : i < listed.size) : (listed.setIfInBounds i true).getD i d = true := by
  rw [Array.getD_eq_getD_getElem?, Array.getElem?_setIfInBounds]; simp [h]
theorem getD_set_other {listed : Array Bool} {i k : Nat} (d : Bool) (h : i ≠ k) : (listed.setIfInBounds i true).getD k d = listed.getD k d := by
  rw [Array.getD_eq_getD_getElem?, Array.getD_eq_getD_getElem?, Array.getElem?_setIfInBounds, if_neg h]
theorem getD_set_grow {listed : Array Bool} {i k : Nat} (h : listed.getD k false = true) : (listed.setIfInBounds i true).getD k false = true := by
  by_cases e : i = k
  · subst e
    by_cases c : i < listed.size
    · exact getD_set_eq _ c
    · rw [Array.getD_eq_getD_getElem?, Array.getElem?_eq_none (by omega)] at h; cases h
  · rw [getD_set_other _ e]; exact h
theorem getD_flip {listed : Array Bool} {i : Nat} (h : listed.getD i true = false) : listed.getD i false = false := by
  by_cases c : i < listed.size
  · simp [c] at h ⊢; exact h
  · rw [Array.getD_eq_getD_getElem?, Array.getElem?_eq_none (by omega)] at h; cases h
theorem Closed.set {listed : Array Bool} (h : Closed md ops listed) {i : Nat} (hr : i ∈ Region.ready md ops listed) : Closed md ops (listed.setIfInBounds i true) := by
  intro j oj hj hl e he hb
  by_cases c : i = j
  · subst c
    obtain ⟨_, o, ho, h2⟩ := mem_ready.1 hr
    obtain rfl := Option.some.inj (ho.symm.trans hj)
    exact getD_set_grow (h2 e he hb)
  · rw [getD_set_other _ c] at hl
    exact getD_set_grow (h j oj hj hl e he hb)
/-- Whatever order is picked: S holds behind every operation but the gate, while the gate has not come up. -/
def wpAnyG (P : Program) (md : Region.Mode) (ops : Array Oper) (Q : Exit → Act → World → Prop) (S : World → Prop) (g : Nat) : Nat → Array Bool → Act → World → Prop
  | 0, listed, a, w => Region.ready md ops listed = [] ∧ Q .normal a w
  | fuel + 1, listed, a, w =>
    (Region.ready md ops listed = [] → Q .normal a w) ∧
    ∀ i ∈ Region.ready md ops listed, wpOp P ops Q i (fun a' w' => (i ≠ g → listed.getD g false = false → S w') ∧ wpAnyG P md ops Q S g fuel (listed.setIfInBounds i true) a' w') a w
theorem wpAny_of_gate : ∀ (fuel : Nat) (listed : Array Bool) (a : Act) (w : World), wpAnyG P md ops Q S g fuel listed a w → wpAny P md ops Q fuel listed a w
  | 0, _, _, _, h => h
  | fuel + 1, _, _, _, h => ⟨h.1, fun i hi => wpOp_mono (fun a' w' h' => wpAny_of_gate fuel _ a' w' h'.2) (h.2 i hi)⟩
/-- The gate comes up behind i. -/
def Behind (md : Region.Mode) (ops : Array Oper) (i g : Nat) : Prop :=
  ∀ listed, Closed md ops listed → listed.getD i true = false → listed.getD g false = false ∧ g ∉ Region.ready md ops listed
theorem wpAnyG_first {i : Nat} {oi : Oper} {v : Value} {T : World → Prop} (hi : ops[i]? = some oi) (hsel : ∀ (j : Nat) (o : Oper) cs b, ops[j]? = some o → o.op ≠ .select cs b) (hig : i ≠ g)
    (hT : (∀ w, T w) ∨ ((∀ w, S w → T w) ∧ Behind md ops i g)) (hQ : ∀ c a w, Q (.panic c) (a.put oi.dst v) w → Q (.panic c) a w) :
    ∀ (fuel : Nat) (listed : Array Bool) (a : Act) (w : World), Closed md ops listed →
      (∀ j oj, ops[j]? = some oj → j ≠ i → listed.getD j true = false → (∀ e ∈ oj.after, Region.binds md e = true → e.on ≠ i) → oi.apart ops oj = true) →
      i ∈ Region.ready md ops listed → YieldsIf P ops T oi v a → T w → (listed.getD g false = false → S w) →
      wpAnyG P md ops Q S g fuel (listed.setIfInBounds i true) (a.put oi.dst v) w → wpAnyG P md ops Q S g (fuel + 1) listed a w := by
  intro fuel
  induction fuel with
  | zero =>
    intro listed a w _ _ hr hy hTw hSw H
    refine ⟨fun h => (by rw [h] at hr; cases hr), fun j hj => ?_⟩
    by_cases hji : j = i
    · subst hji; exact hy.wpOp hi hTw ⟨fun _ h => hSw h, H⟩
    · have := ready_mono hj hji
      rw [H.1] at this
      cases this
  | succ fuel ih =>
    intro listed a w hcl hfree hr hy hTw hSw H
    refine ⟨fun h => (by rw [h] at hr; cases hr), fun j hj => ?_⟩
    by_cases hji : j = i
    · subst hji; exact hy.wpOp hi hTw ⟨fun _ h => hSw h, H⟩
    · have h1 := H.2 j (ready_mono hj hji)
      obtain ⟨hjun, oj, hoj, hall⟩ := mem_ready.1 hj
      have hiun := (mem_ready.1 hr).1
      have hnot : ∀ e ∈ oj.after, Region.binds md e = true → e.on ≠ i := fun e he hb heq => by
        have h1 := hall e he hb
        rw [heq, getD_flip hiun] at h1
        cases h1
      have h2 := wpOp_putIf hoj (hfree j oj hoj hji hjun hnot) (fun cs b => hsel i oi cs b hi) (fun cs b => hsel j oj cs b hoj) hQ hy h1
      have hfree' : ∀ k ok, ops[k]? = some ok → k ≠ i → (listed.setIfInBounds j true).getD k true = false →
          (∀ e ∈ ok.after, Region.binds md e = true → e.on ≠ i) → oi.apart ops ok = true := fun k ok hk hki hun hno => by
        refine hfree k ok hk hki ?_ hno
        by_cases hjk : j = k
        · subst hjk; exact hjun
        · rw [getD_set_other true hjk] at hun; exact hun
      rw [getD_set_other _ hig] at h2
      refine wpOp_mono (fun a' w' h3 => ?_) h2
      have hS' : (listed.setIfInBounds j true).getD g false = false → S w' := fun h => by
        by_cases hjg : j = g
        · subst hjg
          rw [getD_set_eq _ (by
            by_cases c : j < listed.size
            · exact c
            · rw [Array.getD_eq_getD_getElem?, Array.getElem?_eq_none (by omega)] at hjun; cases hjun)] at h
          cases h
        · rw [getD_set_other _ hjg] at h
          exact h3.2.1 hjg h
      have hT' : T w' := by
        rcases hT with hT | ⟨hT, hB⟩
        · exact hT w'
        · obtain ⟨hg1, hg2⟩ := hB listed hcl hiun
          refine hT w' (h3.2.1 (fun e => hg2 (e ▸ hj)) hg1)
      refine ⟨fun h4 h5 => h3.2.1 h4 h5, ih (listed.setIfInBounds j true) a' w' (hcl.set hj) hfree' (ready_mono hr (Ne.symm hji)) h3.1 hT' hS' ?_⟩
      rw [Array.setIfInBounds_comm _ _ hji]
      exact h3.2.2
/-- Those that wait for i, one by one: each waits for an earlier one of them. -/
def laterOk (am : List Nat) (i later : Nat) : Bool :=
  (List.range am.length).all fun d => !later.testBit d || d == i || (List.range d).any fun e => later.testBit e && (am.getD d 0).testBit e
theorem later_unlisted (am : List Nat) (ham : ops.toList.map (amOf md) = am) (i later : Nat) (hl : laterOk am i later = true) (listed : Array Bool) (hcl : Closed md ops listed) (hi : listed.getD i false = false) :
    ∀ d, d < am.length → later.testBit d = true → listed.getD d false = false := by
  intro d
  induction d using Nat.strongRecOn with
  | _ d ih =>
    intro hd hb
    have h := List.all_eq_true.1 hl d (List.mem_range.2 hd)
    rw [hb] at h
    simp only [Bool.not_true, Bool.false_or, Bool.or_eq_true, beq_iff_eq, List.any_eq_true, List.mem_range, Bool.and_eq_true] at h
    rcases h with rfl | ⟨e, he, h1, h2⟩
    · exact hi
    · have hlen : am.length = ops.size := by rw [← ham]; simp
      obtain ⟨o, ho⟩ : ∃ o, ops[d]? = some o := ⟨_, Array.getElem?_eq_getElem (by omega)⟩
      have ea : am.getD d 0 = amOf md o := by
        rw [← ham, List.getD_eq_getElem?_getD, List.getElem?_map, Array.getElem?_toList, ho]; rfl
      rw [ea] at h2
      obtain ⟨x, hx, hxb, hxe⟩ := (amOf_bit md o e).1 h2
      cases c : listed.getD d false
      · rfl
      · have := hcl d o ho c x hx hxb
        rw [hxe, ih e he (by omega) h1] at this
        cases this
theorem behind_of (am : List Nat) (ham : ops.toList.map (amOf md) = am) (i later : Nat) (hl : laterOk am i later = true) (hg : later.testBit g = true) (hgi : g ≠ i) (hgn : g < am.length) : Behind md ops i g := by
  intro listed hcl hi
  refine ⟨later_unlisted am ham i later hl listed hcl (getD_flip hi) g hgn hg, fun hr => ?_⟩
  obtain ⟨_, o, ho, h2⟩ := mem_ready.1 hr
  have h := List.all_eq_true.1 hl g (List.mem_range.2 hgn)
  rw [hg] at h
  simp only [Bool.not_true, Bool.false_or, Bool.or_eq_true, beq_iff_eq, List.any_eq_true, List.mem_range, Bool.and_eq_true] at h
  rcases h with h | ⟨e, he, h1, h3⟩
  · exact hgi h
  · have ea : am.getD g 0 = amOf md o := by
      rw [← ham, List.getD_eq_getElem?_getD, List.getElem?_map, Array.getElem?_toList, ho]; rfl
    rw [ea] at h3
    obtain ⟨x, hx, hxb, hxe⟩ := (amOf_bit md o e).1 h3
    have h4 := h2 x hx hxb
    rw [hxe, later_unlisted am ham i later hl listed hcl (getD_flip hi) e (by omega) h1] at h4
    cases h4
end
/-- May they come up so? 0: taken, by S, ahead of the gate; 1: passed over; 2: the only one that may come up, ahead of the gate; 3: taken, in whatever world; 4: the gate, or behind it: the only one that may come up. -/
def seqOkG (n g : Nat) (am cf later : List Nat) : List (Nat × Nat) → Nat → Bool
  | [], done => (List.range n).all done.testBit
  | (i, k) :: l, done => decide (i < n) && !done.testBit i && (am.getD i 0 &&& done == am.getD i 0) &&
      (if k = 2 ∨ k = 4 then (List.range n).all (fun j => j == i || done.testBit j || !(am.getD j 0 &&& done == am.getD j 0)) else (cf.getD i 0 &&& done == cf.getD i 0) && i != g) &&
      (if k = 0 then laterOk am i (later.getD i 0) && (later.getD i 0).testBit g else if k = 2 then i != g && !done.testBit g else if k = 4 then i == g || done.testBit g else true) && seqOkG n g am cf later l (done ||| 2 ^ i)
def wpSeqG (P : Program) (ops : Array Oper) (Q : Exit → Act → World → Prop) (S : World → Prop) : List (Nat × Nat) → Act → World → Prop
  | [], a, w => Q .normal a w
  | (i, k) :: l, a, w => ∃ o, ops[i]? = some o ∧
      (if k = 0 then ∃ v, (Region.wanted o (yielded ops a.tmps) = true ∧ ∀ w, S w → (execOp a.eval o).run P w = .ok (.value v) w) ∧ wpSeqG P ops Q S l (a.put o.dst v) w
      else if k = 1 then Region.wanted o (yielded ops a.tmps) = false ∧ wpSeqG P ops Q S l (a.put o.dst undef) w
      else if k = 2 then wpOp P ops Q i (fun a' w' => S w' ∧ wpSeqG P ops Q S l a' w') a w
      else if k = 3 then ∃ v, (Region.wanted o (yielded ops a.tmps) = true ∧ ∀ w, (execOp a.eval o).run P w = .ok (.value v) w) ∧ wpSeqG P ops Q S l (a.put o.dst v) w
      else k = 4 ∧ wpOp P ops Q i (fun a' w' => wpSeqG P ops Q S l a' w') a w)
theorem wpAnyG_seq {P : Program} {md : Region.Mode} {ops : Array Oper} {Q : Exit → Act → World → Prop} {S : World → Prop} (g : Nat) (am cf later : List Nat) (hgn : g < ops.size)
    (ham : ops.toList.map (amOf md) = am) (hcf : cfAll md ops ops.toList 0 = cf) (hs : Region.noSelect ops = true)
    (hQ : ∀ c a w d v, Q (.panic c) (Act.put a d v) w → Q (.panic c) a w) :
    ∀ (l : List (Nat × Nat)) (done : Nat) (listed : Array Bool) (a : Act) (w : World), Inv ops.size listed done → Closed md ops listed → seqOkG ops.size g am cf later l done = true → (done.testBit g = false → S w) →
      wpSeqG P ops Q S l a w → wpAnyG P md ops Q S g l.length listed a w := by
  have am_get : ∀ (i : Nat) (o : Oper), ops[i]? = some o → am.getD i 0 = amOf md o := by
    intro i o ho
    rw [← ham, List.getD_eq_getElem?_getD, List.getElem?_map, Array.getElem?_toList, ho]; rfl
  have am_len : am.length = ops.size := by rw [← ham]; simp
  have cf_get : ∀ (i : Nat) (o : Oper), ops[i]? = some o → cf.getD i 0 = cfOf md ops o i ops.toList 0 := by
    intro i o ho
    rw [← hcf, List.getD_eq_getElem?_getD, cfAll_get md ops ops.toList 0 i o (by rw [Array.getElem?_toList]; exact ho), Nat.zero_add]; rfl
  have is_ready : ∀ (i done : Nat) (listed : Array Bool) (o : Oper), Inv ops.size listed done → ops[i]? = some o → done.testBit i = false → (am.getD i 0 &&& done == am.getD i 0) = true → i ∈ Region.ready md ops listed := by
    intro i done listed o hI ho hd ha
    have hin : i < ops.size := (Array.getElem?_eq_some_iff.1 ho).1
    refine mem_ready.2 ⟨by rw [hI.getT hin]; exact hd, o, ho, fun e he hb => ?_⟩
    rw [hI.getF]
    rw [am_get i o ho] at ha
    exact sub_bits ha e.on ((amOf_bit md o e.on).2 ⟨e, he, hb, rfl⟩)
  have ready_is : ∀ (i done : Nat) (listed : Array Bool), Inv ops.size listed done → i ∈ Region.ready md ops listed → i < ops.size ∧ done.testBit i = false ∧ (am.getD i 0 &&& done == am.getD i 0) = true := by
    intro i done listed hI hr
    obtain ⟨h1, o, ho, h2⟩ := mem_ready.1 hr
    have hin : i < ops.size := (Array.getElem?_eq_some_iff.1 ho).1
    refine ⟨hin, by rw [← hI.getT hin]; exact h1, ?_⟩
    rw [am_get i o ho]
    refine bits_sub fun k hk => ?_
    obtain ⟨e, he, hb, rfl⟩ := (amOf_bit md o k).1 hk
    rw [← hI.getF]
    exact h2 e he hb
  intro l
  induction l with
  | nil =>
    intro done listed a w hI _ hk _ h
    refine ⟨?_, h⟩
    refine List.eq_nil_iff_forall_not_mem.2 fun i hi => ?_
    obtain ⟨h1, h2, _⟩ := ready_is i done listed hI hi
    have := List.all_eq_true.1 hk i (List.mem_range.2 h1)
    rw [h2] at this
    cases this
  | cons x l ih =>
    obtain ⟨i, k⟩ := x
    intro done listed a w hI hcl hk hS h
    unfold seqOkG at hk
    simp only [Bool.and_eq_true, decide_eq_true_eq, Bool.not_eq_true'] at hk
    obtain ⟨⟨⟨⟨⟨k1, k2⟩, k3⟩, k4⟩, k5⟩, k6⟩ := hk
    obtain ⟨o, ho, h⟩ := h
    have hr := is_ready i done listed o hI ho k2 k3
    have hI' := hI.set k1
    have hcl' := hcl.set hr
    have gbit : ∀ j, j ≠ g → (done ||| 2 ^ j).testBit g = done.testBit g := fun j hj => by
      rw [Nat.testBit_or, testBit_pow]
      simp [hj]
    have hfree : ¬ (k = 2 ∨ k = 4) → i ≠ g ∧ ∀ j oj, ops[j]? = some oj → j ≠ i → listed.getD j true = false → (∀ e ∈ oj.after, Region.binds md e = true → e.on ≠ i) → o.apart ops oj = true := by
      intro hk2
      rw [if_neg hk2] at k4
      simp only [Bool.and_eq_true, bne_iff_ne] at k4
      refine ⟨k4.2, ?_⟩
      intro j oj hj hji hun hno
      cases c : o.apart ops oj
      · exfalso
        have hjn : j < ops.size := (Array.getElem?_eq_some_iff.1 hj).1
        have hb : (amOf md oj).testBit i = false := by
          cases e : (amOf md oj).testBit i
          · rfl
          · obtain ⟨x, hx, hxb, hxi⟩ := (amOf_bit md oj i).1 e
            exact absurd hxi (hno x hx hxb)
        have k4' := k4.1
        rw [cf_get i o ho] at k4'
        have := sub_bits k4' j (cfOf_bit md ops o i j oj hji hb c ops.toList 0 j (by rw [Array.getElem?_toList]; exact hj) (Nat.zero_add _))
        rw [hI.getT hjn, this] at hun
        cases hun
      · rfl
    have only : (k = 2 ∨ k = 4) → ∀ j ∈ Region.ready md ops listed, j = i := by
      intro hk2 j hj
      rw [if_pos hk2] at k4
      obtain ⟨q1, q2, q3⟩ := ready_is j done listed hI hj
      have := List.all_eq_true.1 k4 j (List.mem_range.2 q1)
      rw [q2, q3] at this
      simpa using this
    have hSl : listed.getD g false = false → S w := fun hg => hS (by rw [← hI.getF]; exact hg)
    rw [List.length_cons]
    by_cases c0 : k = 0
    · subst c0
      obtain ⟨hig, hfr⟩ := hfree (by omega)
      rw [if_pos rfl] at h k5
      simp only [Bool.and_eq_true] at k5
      obtain ⟨v, ⟨hw, hv⟩, h⟩ := h
      have hB := behind_of (g := g) am ham i (later.getD i 0) k5.1 k5.2 (Ne.symm hig) (by omega)
      obtain ⟨hg1, _⟩ := hB listed hcl (mem_ready.1 hr).1
      exact wpAnyG_first (T := S) ho (Region.noSelect_spec hs) hig (.inr ⟨fun _ h => h, hB⟩) (fun c a w h => hQ c a w _ _ h) l.length listed a w hcl hfr hr (Or.inl ⟨hw, hv⟩) (hSl hg1) hSl
        (ih _ _ _ _ hI' hcl' k6 (fun hg => hSl hg1) h)
    rw [if_neg c0] at h
    by_cases c1 : k = 1
    · subst c1
      obtain ⟨hig, hfr⟩ := hfree (by omega)
      rw [if_pos rfl] at h
      exact wpAnyG_first (T := fun _ => True) ho (Region.noSelect_spec hs) hig (.inl fun _ => trivial) (fun c a w h => hQ c a w _ _ h) l.length listed a w hcl hfr hr (Or.inr ⟨h.1, rfl⟩) trivial hSl
        (ih _ _ _ _ hI' hcl' k6 (fun hg => hS (by rw [gbit i hig] at hg; exact hg)) h.2)
    rw [if_neg c1] at h
    by_cases c2 : k = 2
    · subst c2
      rw [if_pos rfl] at h
      simp only [if_neg c0, if_true, Bool.and_eq_true, bne_iff_ne, Bool.not_eq_true'] at k5
      refine ⟨fun e => (by rw [e] at hr; cases hr), fun j hj => ?_⟩
      obtain rfl := only (Or.inl rfl) j hj
      exact wpOp_mono (fun a' w' h' => ⟨fun _ _ => h'.1, ih _ _ _ _ hI' hcl' k6 (fun _ => h'.1) h'.2⟩) h
    rw [if_neg c2] at h
    by_cases c3 : k = 3
    · subst c3
      obtain ⟨hig, hfr⟩ := hfree (by omega)
      rw [if_pos rfl] at h
      obtain ⟨v, ⟨hw, hv⟩, h⟩ := h
      exact wpAnyG_first (T := fun _ => True) ho (Region.noSelect_spec hs) hig (.inl fun _ => trivial) (fun c a w h => hQ c a w _ _ h) l.length listed a w hcl hfr hr (Or.inl ⟨hw, fun w _ => hv w⟩) trivial hSl
        (ih _ _ _ _ hI' hcl' k6 (fun hg => hS (by rw [gbit i hig] at hg; exact hg)) h)
    rw [if_neg c3] at h
    obtain ⟨c4, h⟩ := h
    subst c4
    simp only [if_neg c0, if_neg c2, if_true, Bool.or_eq_true, beq_iff_eq] at k5
    refine ⟨fun e => (by rw [e] at hr; cases hr), fun j hj => ?_⟩
    obtain rfl := only (Or.inr rfl) j hj
    have hdone : (done ||| 2 ^ j).testBit g = true := by
      rw [Nat.testBit_or, testBit_pow]
      rcases k5 with rfl | k5
      · simp
      · rw [k5]; rfl
    have hls : listed.getD g false = false → j = g := fun hg => by
      rcases k5 with k5 | k5
      · exact k5
      · rw [hI.getF, k5] at hg; cases hg
    exact wpOp_mono (fun a' w' h' => ⟨fun hjg hg => absurd (hls hg) hjg, ih _ _ _ _ hI' hcl' k6 (fun hg => by rw [hdone] at hg; cases hg) h'⟩) h
/-- The beginning: the order, and that it may be. -/
theorem wp_region_gate {P : Program} {ops : Array Oper} {Q : Exit → Act → World → Prop} {S : World → Prop} {id : Nat} {a : Act} {w : World} (g : Nat) (l : List (Nat × Nat)) (am cf later : List Nat) (hm : P.follows .mixedOrders = true)
    (hk : (Region.noSelect ops && decide (l.length = ops.size) && decide (g < ops.size) && decide (ops.toList.map (amOf .any) = am) && decide (cfAll .any ops ops.toList 0 = cf) && seqOkG ops.size g am cf later l 0) = true)
    (hQ : ∀ c a w d v, Q (.panic c) (Act.put a d v) w → Q (.panic c) a w) (hS : S w.drew)
    (h : S w.drew → wpSeqG P ops Q S l a w.drew) : (Code.region id ops true).wp P Q a w := by
  simp only [Bool.and_eq_true, decide_eq_true_eq] at hk
  obtain ⟨⟨⟨⟨⟨h1, h2⟩, hg⟩, h3⟩, h4⟩, h5⟩ := hk
  refine wp_region_any hm ?_
  rw [← h2]
  refine wpAny_of_gate (S := S) (g := g) _ _ _ _ ?_
  have := wpAnyG_seq (P := P) (md := .any) (S := S) g am cf later hg h3 h4 h1 hQ l 0 (Array.replicate ops.size false) a w.drew (Inv.start _) (fun j oj hj hl => by
    rw [Array.getD_eq_getD_getElem?, Array.getElem?_replicate] at hl
    split at hl <;> simp at hl) h5 (fun _ => hS) (h hS)
  rw [h2] at this ⊢
  exact this
theorem wpSeqG_take {P : Program} {ops : Array Oper} {Q : Exit → Act → World → Prop} {S : World → Prop} {l : List (Nat × Nat)} {t : List Value} {df : List _} {w : World} {i d : Nat} {o : Oper} {v : Value}
    (ho : ops.toList[i]? = some o) (hd : o.dst = some d) (hw : Region.wanted o (yielded ops t.toArray) = true)
    (hy : ∀ w, S w → (execOp (Act.eval { tmps := t.toArray, defers := df }) o).run P w = .ok (.value v) w)
    (h : wpSeqG P ops Q S l { tmps := (t.set d v).toArray, defers := df } w) : wpSeqG P ops Q S ((i, 0) :: l) { tmps := t.toArray, defers := df } w := by
  refine ⟨o, by rw [← Array.getElem?_toList]; exact ho, ?_⟩
  rw [if_pos rfl]
  refine ⟨v, ⟨hw, hy⟩, ?_⟩
  have e : Act.put { tmps := t.toArray, defers := df } o.dst v = { tmps := (t.set d v).toArray, defers := df } := by
    rw [hd]; simp [Act.put]
  rw [e]
  exact h
theorem wpSeqG_free {P : Program} {ops : Array Oper} {Q : Exit → Act → World → Prop} {S : World → Prop} {l : List (Nat × Nat)} {t : List Value} {df : List _} {w : World} {i d : Nat} {o : Oper} {v : Value}
    (ho : ops.toList[i]? = some o) (hd : o.dst = some d) (hw : Region.wanted o (yielded ops t.toArray) = true)
    (hy : ∀ w, (execOp (Act.eval { tmps := t.toArray, defers := df }) o).run P w = .ok (.value v) w)
    (h : wpSeqG P ops Q S l { tmps := (t.set d v).toArray, defers := df } w) : wpSeqG P ops Q S ((i, 3) :: l) { tmps := t.toArray, defers := df } w := by
  refine ⟨o, by rw [← Array.getElem?_toList]; exact ho, ?_⟩
  rw [if_neg (by decide), if_neg (by decide), if_neg (by decide), if_pos rfl]
  refine ⟨v, ⟨hw, hy⟩, ?_⟩
  have e : Act.put { tmps := t.toArray, defers := df } o.dst v = { tmps := (t.set d v).toArray, defers := df } := by
    rw [hd]; simp [Act.put]
  rw [e]
  exact h
theorem wpSeqG_skip {P : Program} {ops : Array Oper} {Q : Exit → Act → World → Prop} {S : World → Prop} {l : List (Nat × Nat)} {t : List Value} {df : List _} {w : World} {i d : Nat} {o : Oper}
    (ho : ops.toList[i]? = some o) (hd : o.dst = some d) (hw : Region.wanted o (yielded ops t.toArray) = false) (ht : t.set d undef = t)
    (h : wpSeqG P ops Q S l { tmps := t.toArray, defers := df } w) : wpSeqG P ops Q S ((i, 1) :: l) { tmps := t.toArray, defers := df } w := by
  refine ⟨o, by rw [← Array.getElem?_toList]; exact ho, ?_⟩
  rw [if_neg (by decide), if_pos rfl]
  refine ⟨hw, ?_⟩
  have e : Act.put { tmps := t.toArray, defers := df } o.dst undef = { tmps := t.toArray, defers := df } := by
    rw [hd]; simp [Act.put, ht]
  rw [e]
  exact h
theorem wpSeqG_call {P : Program} {ops : Array Oper} {Q : Exit → Act → World → Prop} {S : World → Prop} {l : List (Nat × Nat)} {a : Act} {w : World} {i : Nat} {o : Oper}
    (ho : ops.toList[i]? = some o) (hw : Region.wanted o (yielded ops a.tmps) = true)
    (h : ∀ K' : Act → World → Prop, Shut (∀ a w, S w → (S w → wpSeqG P ops Q S l a w) → K' a w) → Oper.wp P o a w K' Q) : wpSeqG P ops Q S ((i, 2) :: l) a w := by
  rw [Array.getElem?_toList] at ho
  refine ⟨o, ho, ?_⟩
  rw [if_neg (by decide), if_neg (by decide), if_pos rfl]
  refine wpOp_step ho fun K' hK => ?_
  rw [if_pos hw]
  exact h K' fun a w hS h => hK a w ⟨hS, h hS⟩
theorem wpSeqG_gate {P : Program} {ops : Array Oper} {Q : Exit → Act → World → Prop} {S : World → Prop} {l : List (Nat × Nat)} {a : Act} {w : World} {i : Nat} {o : Oper}
    (ho : ops.toList[i]? = some o) (hw : Region.wanted o (yielded ops a.tmps) = true)
    (h : ∀ K' : Act → World → Prop, Shut (∀ a w, wpSeqG P ops Q S l a w → K' a w) → Oper.wp P o a w K' Q) : wpSeqG P ops Q S ((i, 4) :: l) a w := by
  rw [Array.getElem?_toList] at ho
  refine ⟨o, ho, ?_⟩
  rw [if_neg (by decide), if_neg (by decide), if_neg (by decide), if_neg (by decide)]
  refine ⟨rfl, wpOp_step ho fun K' hK => ?_⟩
  rw [if_pos hw]
  exact h K' fun a w h => hK a w h
theorem wpSeqG_done {P : Program} {ops : Array Oper} {Q : Exit → Act → World → Prop} {S : World → Prop} {a : Act} {w : World} (h : Q .normal a w) : wpSeqG P ops Q S [] a w := h
end Go.Proofs.Ytnmcgleanpdlmaa

namespace Go.Proofs.Ytnmcgleanpdlmaa
open Go.RowKit
set_option linter.unusedVariables false
/-- A deck that the call owns: rows inside of rows. -/
structure OwnD (w : World) (base : Nat) (wv tv fv : Value) (d : Dk) (ss tt : List Value) : Prop where
  ws : w.ownsRow base 64 5 wv d.ws.length (flatR d.ws ss)
  ts : w.ownsRow base 59 5 tv d.ts.length (flatR d.ts tt)
  fs : w.ownsRow base 66 4 fv d.fs.length (flatF d.fs)
  sl : ss.length = d.ws.length
  tl : tt.length = d.ts.length
  sh : ∀ (i : Nat) r v, d.ws[i]? = some r → ss[i]? = some v → w.ownsRow base 102 6 v r.l.length (flat r.l)
  th : ∀ (i : Nat) r v, d.ts[i]? = some r → tt[i]? = some v → w.ownsRow base 102 6 v r.l.length (flat r.l)
  wi : ∀ r ∈ d.ws, ∀ s ∈ r.l, s.I
  ti : ∀ r ∈ d.ts, ∀ s ∈ r.l, s.I
theorem OwnD.dk {w : World} {base : Nat} {wv tv fv : Value} {d : Dk} {ss tt : List Value} (h : OwnD w base wv tv fv d ss tt) : IsDk w wv tv fv d :=
  ⟨isRecs_own h.ws h.sl.symm (fun i r v hr hv => isSecs_own (h.sh i r v hr hv) (h.wi r (List.mem_of_getElem? hr))),
    isRecs_own h.ts h.tl.symm (fun i r v hr hv => isSecs_own (h.th i r v hr hv) (h.ti r (List.mem_of_getElem? hr))), isFls_own h.fs⟩
theorem own_on {w w' : World} {base e size n : Nat} {v : Value} {xs : List Value} (h : w.ownsRow base e size v n xs) (hb : ∀ i, base ≤ i → i < w.heap.size → w'.heap[i]? = w.heap[i]?) : w'.ownsRow base e size v n xs := by
  refine ⟨h.1, ?_⟩
  rcases h.2 with hn | ⟨g, cap, cur, rfl, hbg, hg, rest⟩
  · exact .inl hn
  · exact .inr ⟨g, cap, cur, rfl, hbg, (hb g hbg (obj_lt hg)).trans hg, rest⟩
theorem OwnD.on {w w' : World} {base : Nat} {wv tv fv : Value} {d : Dk} {ss tt : List Value} (h : OwnD w base wv tv fv d ss tt) (hb : ∀ i, base ≤ i → i < w.heap.size → w'.heap[i]? = w.heap[i]?) : OwnD w' base wv tv fv d ss tt :=
  ⟨own_on h.ws hb, own_on h.ts hb, own_on h.fs hb, h.sl, h.tl, fun i r v h1 h2 => own_on (h.sh i r v h1 h2) hb, fun i r v h1 h2 => own_on (h.th i r v h1 h2) hb, h.wi, h.ti⟩
theorem OwnD.held {w : World} {base : Nat} {wv tv fv : Value} {d : Dk} {ss tt : List Value} (h : OwnD w base wv tv fv d ss tt) : Held (fun w => IsDk w wv tv fv d) base w.heap.size w :=
  ⟨h.dk, Nat.le_refl _, fun w' hb => (h.on hb).dk⟩
theorem OwnD.heldW {w : World} {base : Nat} {wv tv fv : Value} {d : Dk} {ss tt : List Value} (h : OwnD w base wv tv fv d ss tt) (i : Nat) (r : Wr) (v : Value) (h1 : d.ws[i]? = some r) (h2 : ss[i]? = some v) : Held (fun w => IsSecs w v r.l) base w.heap.size w :=
  ⟨isSecs_own (h.sh i r v h1 h2) (h.wi r (List.mem_of_getElem? h1)), Nat.le_refl _, fun w' hb => isSecs_own (own_on (h.sh i r v h1 h2) hb) (h.wi r (List.mem_of_getElem? h1))⟩
theorem OwnD.heldT {w : World} {base : Nat} {wv tv fv : Value} {d : Dk} {ss tt : List Value} (h : OwnD w base wv tv fv d ss tt) (i : Nat) (r : Wr) (v : Value) (h1 : d.ts[i]? = some r) (h2 : tt[i]? = some v) : Held (fun w => IsSecs w v r.l) base w.heap.size w :=
  ⟨isSecs_own (h.th i r v h1 h2) (h.ti r (List.mem_of_getElem? h1)), Nat.le_refl _, fun w' hb => isSecs_own (own_on (h.th i r v h1 h2) hb) (h.ti r (List.mem_of_getElem? h1))⟩
theorem own_low {w : World} {base base' e size n : Nat} {v : Value} {xs : List Value} (h : w.ownsRow base e size v n xs) (hb : base' ≤ base) : w.ownsRow base' e size v n xs := by
  refine ⟨h.1, ?_⟩
  rcases h.2 with hn | ⟨g, cap, cur, rfl, hbg, rest⟩
  · exact .inl hn
  · exact .inr ⟨g, cap, cur, rfl, Nat.le_trans hb hbg, rest⟩
theorem own_keepBx {w w' : World} {base e size n : Nat} {v : Value} {xs : List Value} (h : w.ownsRow base e size v n xs) (q : B w w') : w'.ownsRow base e size v n xs :=
  own_on h fun i _ hi => q.below.block i hi
theorem own_objG {w w' : World} {base e t size n C : Nat} {v : Value} {xs : List Value} {cs : Array Value} (h : w.ownsRow base e size v n xs) (ho : w.heap[C]? = some (.cells cs t (0, 0))) (he : t ≠ e) (g : G (fun i => i = C) w w') : w'.ownsRow base e size v n xs := by
  refine ⟨h.1, ?_⟩
  rcases h.2 with hn | ⟨b, cap, cur, rfl, hbg, hb, rest⟩
  · exact .inl hn
  · refine .inr ⟨b, cap, cur, rfl, hbg, g.obj (fun hbC => ?_) hb, rest⟩
    subst hbC
    rw [ho] at hb
    simp only [Option.some.injEq, Obj.cells.injEq] at hb
    exact he hb.2.1
theorem farF2 {w : World} {b2 : Nat} {e2 t : TypeId} {s2 n2 : Nat} {v2 : Value} {x2 : List Value} {i : Nat} {cs : Array Value} (ho : w.heap[i]? = some (.cells cs t (0, 0))) (h2 : w.ownsRow b2 e2 s2 v2 n2 x2) (he : t ≠ e2) : v2.ownBlock ≠ some i :=
  obj_apart ho h2 (fun e => he (by simpa [kindO] using e))
def OwnV (k e size n : Nat) (xs : List Value) : Value → World → Prop := fun v w => ∃ o c, v = .slice o n c ∧ w.ownsRow k e size (.slice o n c) n xs
theorem slot_own (k e size n : Nat) (xs : List Value) : Slot.stays (OwnV k e size n xs) := fun _ _ _ ⟨o, c, h1, h2⟩ q => ⟨o, c, h1, own_keepBx h2 q⟩
def OwnA (k nw nt nf : Nat) (XW XT XF : List Value) : Value → World → Prop := fun v w => ∃ o1 c1 o2 c2 o3 c3, v = .agg #[.slice o1 nw c1, .slice o2 nt c2, .slice o3 nf c3] ∧ w.ownsRow k 64 5 (.slice o1 nw c1) nw XW ∧ w.ownsRow k 59 5 (.slice o2 nt c2) nt XT ∧ w.ownsRow k 66 4 (.slice o3 nf c3) nf XF
theorem slot_owna (k nw nt nf : Nat) (XW XT XF : List Value) : Slot.stays (OwnA k nw nt nf XW XT XF) := fun _ _ _ ⟨o1, c1, o2, c2, o3, c3, h, r1, r2, r3⟩ q => ⟨o1, c1, o2, c2, o3, c3, h, own_keepBx r1 q, own_keepBx r2 q, own_keepBx r3 q⟩
def BoxV (k : Nat) : Value → World → Prop := fun v w => ∃ b, v = .pointer (some ⟨b, 0, none⟩) ∧ w.heap[b]? = some (.cells #[.slice none 0 0, .slice none 0 0, .slice none 0 0] 39 (0, 0)) ∧ k ≤ b
theorem slot_box (k : Nat) : Slot.stays (BoxV k) := fun _ _ _ ⟨b, h1, h2, h3⟩ q => ⟨b, h1, q.obj h2, h3⟩
theorem flatR_set : ∀ (L : List Rec) (vs : List Value) (i : Nat) (v : Value), L.length = vs.length → i < L.length → (flatR L vs).set (i * 5 + 4) v = flatR L (vs.set i v)
  | [], _, i, _, _, h => by simp at h
  | _ :: _, [], _, _, h, _ => by simp at h
  | r :: L, u :: vs, 0, v, _, _ => by
    show (r.cells u ++ flatR L vs).set (0 * 5 + 4) v = r.cells v ++ flatR L vs
    rfl
  | r :: L, u :: vs, i + 1, v, h, hi => by
    show (r.cells u ++ flatR L vs).set ((i + 1) * 5 + 4) v = r.cells u ++ flatR L (vs.set i v)
    rw [List.set_append_right _ _ (by simp [Rec.cells]; omega), show (i + 1) * 5 + 4 - (r.cells u).length = i * 5 + 4 by simp [Rec.cells]; omega, flatR_set L vs i v (by simpa using h) (by simpa using hi)]
/-- Up to i the shapes are new ones; behind it they are those that came in. -/
structure LpAt (L : List Rec) (w wr W1 : World) (k C n : Nat) (sv : Value) (ty : TypeId) (i : Nat) (ss : List Value) : Prop where
  len : ss.length = L.length
  row : wr.ownsRow k ty 5 sv n (flatR L ss)
  old : ∀ (j : Nat) r u, i ≤ j → L[j]? = some r → ss[j]? = some u → IsSecs w u r.l
  new : ∀ (j : Nat) r u, j < i → L[j]? = some r → ss[j]? = some u → wr.ownsRow k 102 6 u r.l.length (flat r.l)
  g : G (fun b => k ≤ b ∧ b ≠ C) W1 wr
  bw : B w wr
  own : ∀ {e size m : Nat} {v : Value} {xs : List Value}, e ≠ ty → W1.ownsRow k e size v m xs → wr.ownsRow k e size v m xs
theorem LpAt.start {L : List Rec} {w W1 : World} {k C n : Nat} {sv : Value} {ty : TypeId} {vs : List Value} (h1 : vs.length = L.length) (h2 : ∀ (i : Nat) r u, L[i]? = some r → vs[i]? = some u → IsSecs w u r.l) (bw : B w W1) (h3 : W1.ownsRow k ty 5 sv n (flatR L vs)) : LpAt L w W1 W1 k C n sv ty 0 vs :=
  ⟨h1, h3, fun j r u _ h4 h5 => h2 j r u h4 h5, fun j r u h => by omega, G.refl _ _, bw, fun _ h => h⟩
section
variable {L : List Rec} {w wr W1 : World} {k C n i : Nat} {sv : Value} {ty : TypeId} {ss : List Value}
theorem LpAt.at_ (h : LpAt L w wr W1 k C n sv ty i ss) (hn : L.length = n) (hi : i < n) : ∃ r u, L[i]? = some r ∧ ss[i]? = some u ∧ ∀ g, sv.ownBlock = some g → wr.cell? ⟨g, i * 5 + 4, none⟩ = some u := by
  have hr : L[i]? = some L[i] := List.getElem?_eq_getElem (by omega)
  have hu : ss[i]? = some (ss[i]'(by have := h.len; omega)) := List.getElem?_eq_getElem _
  refine ⟨_, _, hr, hu, fun g hg => ?_⟩
  have hx := flatR_get L ss i 4 _ _ hr hu (by omega)
  have := h.row
  obtain ⟨o, c, rfl⟩ := ownsRow_form this
  cases o with
  | none => cases hg
  | some a =>
    obtain ⟨g', cap, e, _⟩ := this.form (by omega)
    simp only [Value.slice.injEq, Option.some.injEq, true_and] at e
    obtain ⟨rfl, rfl⟩ := e
    obtain rfl : g' = g := Option.some.inj hg
    rw [this.cellAt (i * 5 + 4) (by omega), hx]
    rfl
theorem LpAt.old_at (h : LpAt L w wr W1 k C n sv ty i ss) {r : Rec} {u : Value} (hr : L[i]? = some r) (hu : ss[i]? = some u) : IsSecs wr u r.l := (h.old i r u (Nat.le_refl _) hr hu).keepB h.bw
theorem LpAt.next {wl w2 : World} {r : Rec} {u : Value} {g cp m o9 c9} (h : LpAt L w wl W1 k C n (.slice (some ⟨g, 0, none⟩) n cp) ty i ss) (hnL : L.length = n) (hk : k ≤ wl.heap.size) (hr : L[i]? = some r) (hu : ss[i]? = some u) (hl : i < n) (q : B wl w2) (hown : w2.ownsRow wl.heap.size 102 6 (.slice o9 m c9) m (flat r.l)) (hm : r.l.length = m) (hty : ty ≠ 102) (hgC : ¬ g = C) (hw : w.heap.size ≤ k) :
    LpAt L w (w2.setCell ⟨g, i * 5 + 4, none⟩ (.slice o9 m c9)) W1 k C n (.slice (some ⟨g, 0, none⟩) n cp) ty (i + 1) (ss.set i (.slice o9 m c9)) := by
  have hrow2 := own_keepBx h.row q
  obtain ⟨h2, g2⟩ := hrow2.stored (i * 5 + 4) (.slice o9 m c9)
  rw [flatR_set L ss i _ h.len.symm (by omega)] at h2
  have hgk : k ≤ g := (h.row.lt g rfl).1
  have o1 : ∀ {e size n' : Nat} {v : Value} {xs : List Value} {b : Nat}, e ≠ ty → w2.ownsRow b e size v n' xs → (w2.setCell ⟨g, i * 5 + 4, none⟩ (.slice o9 m c9)).ownsRow b e size v n' xs := fun {e size n' v xs b} he hv => hv.kept g2 (rows_apart hv hrow2 he)
  refine ⟨by simp [h.len], h2, fun j r' u' hj hr' hu' => ?_, fun j r' u' hj hr' hu' => ?_, ?_, ?_, fun he hv => o1 he (own_keepBx (h.own he hv) q)⟩
  · rw [List.getElem?_set_ne (by omega)] at hu'
    exact h.old j r' u' (by omega) hr' hu'
  · by_cases hji : j = i
    · subst hji
      rw [List.getElem?_set_self (by have := h.len; omega)] at hu'
      obtain rfl := Option.some.inj hu'
      obtain rfl : r = r' := Option.some.inj (hr.symm.trans hr')
      rw [hm]
      exact o1 (fun e => hty e.symm) (own_low hown hk)
    · rw [List.getElem?_set_ne (fun e => hji e.symm)] at hu'
      exact o1 (fun e => hty e.symm) (own_keepBx (h.new j r' u' (by omega) hr' hu') q)
  · exact (h.g.trans (q.g _)).setCell (p := ⟨g, i * 5 + 4, none⟩) (.inl ⟨hgk, hgC⟩) _
  · exact (h.bw.trans q).setCell (p := ⟨g, i * 5 + 4, none⟩) (Nat.le_trans hw hgk) _
end
end Go.Proofs.Ytnmcgleanpdlmaa

namespace Go.Proofs.Ytnmcgleanpdlmaa
open Go.RowKit
/-- A number, and a blank. -/
def numText (n : Int) : List UInt8 := Lib.itoa n ++ [32]
def boolText (b : Bool) : List UInt8 := if b then [116, 114, 117, 101] else [102, 97, 108, 115, 101]
def secText (s : Sec) : List UInt8 := boolText s.r ++ (numText s.h ++ (numText s.a0 ++ (numText s.b0 ++ (numText s.a1 ++ numText s.b1))))
def keyText : List Sec → List UInt8
  | [] => []
  | s :: l => secText s ++ keyText l
end Go.Proofs.Ytnmcgleanpdlmaa

namespace Go.Proofs.Ytnmcgleanpdlmaa
open Go.RowKit Go.Maps
/-- An entry: its shape, its block, its table, the blocks in which that lies. -/
structure Ent where
  l : List Sec
  b : Nat
  p : Value
  lo : Nat
  hi : Nat
/-- How a pointer among a map's elements reads: the number of its block. -/
def ptrElem : Value → Option (DataW Unit × List MemPlace)
  | .pointer none => some (.nil, [])
  | .pointer (some ⟨b, 0, none⟩) => some (.lit (.int .i64 b), [])
  | _ => none
theorem ptrElem_at (b : Nat) : ptrElem (.pointer (some ⟨b, 0, none⟩)) = some (.lit (.int .i64 b), []) := rfl
/-- What a cache's map holds at a shape's key. -/
def entD (E : List Ent) (l : List Sec) : DataW Unit :=
  match E.find? (fun e => decide (e.l = l)) with
  | some e => .lit (.int .i64 e.b)
  | none => .nil
theorem entD_snoc (E : List Ent) (x : Ent) (h : ∀ e ∈ E, e.l ≠ x.l) (l : List Sec) : entD (E ++ [x]) l = if l = x.l then .lit (.int .i64 x.b) else entD E l := by
  unfold entD
  rw [List.find?_append]
  by_cases c : l = x.l
  · subst c
    rw [if_pos rfl, List.find?_eq_none.2 (fun e he => by simpa using h e he)]
    simp
  · rw [if_neg c]
    have : [x].find? (fun e => decide (e.l = l)) = none := by simp [Ne.symm c]
    rw [this]
    cases E.find? (fun e => decide (e.l = l)) <;> rfl
/-- An entry, its table made. -/
structure EntAt (T : World → Value → List (Int × Int) → Prop) (base : Nat) (w : World) (e : Ent) : Prop where
  obj : w.heap[e.b]? = some (.cells #[.int .u32 1, .int .i32 0, .int .u32 0, e.p] 211 (0, 0))
  tab : TabN T e.lo e.hi w e.p (slAll e.l)
  right : rightS e.l = true
  low : base ≤ e.b
  ord : e.b < e.lo
theorem EntAt.g {T : World → Value → List (Int × Int) → Prop} {base : Nat} {w w' : World} {e : Ent} {S : Nat → Prop} (h : EntAt T base w e) (q : G S w w') (hS : ∀ i, S i → i < base) : EntAt T base w' e :=
  ⟨q.obj (fun hs => by have := hS _ hs; have := h.low; omega) h.obj, q.tabN h.tab (fun i h1 h2 hs => by have := hS i hs; have := h.low; have := h.ord; omega), h.right, h.low, h.ord⟩
/-- The cache in block c, its map in block bm: asked n times, m tables made, k entries, F at each shape's key; E: those whose table is made. -/
structure CacheM (T : World → Value → List (Int × Int) → Prop) (w : World) (c bm base n m k : Nat) (F : List Sec → DataW Unit) (E : List Ent) : Prop where
  obj : w.heap[c]? = some (.cells #[.int .i64 n, .int .i64 m, .int .i32 0, .int .u32 0, .map (some bm)] 157 (0, 0))
  map : ∃ D, w.ownsMap Try.prog 9 ptrElem bm k D ∧ ∀ l, D.atKey (.string (keyText l)) .nil = F l
  lt : bm < c
  lb : c < base
  le : base ≤ w.heap.size
  ents : ∀ e ∈ E, EntAt T base w e
  apart : E.Pairwise fun a b => a.l ≠ b.l ∧ a.hi ≤ b.b
/-- At rest. -/
def CacheC (T : World → Value → List (Int × Int) → Prop) (w : World) (c bm base n : Nat) (E : List Ent) : Prop := CacheM T w c bm base n E.length E.length (entD E) E
/-- The cache's own blocks. -/
def CS (c bm : Nat) (i : Nat) : Prop := i = c ∨ i = bm
section
variable {T : World → Value → List (Int × Int) → Prop} {w w' : World} {c bm base n m k : Nat} {F : List Sec → DataW Unit} {E : List Ent}
theorem CacheM.cs (h : CacheM T w c bm base n m k F E) : ∀ i, CS c bm i → i < base := fun i hi => by
  have := h.lt; have := h.lb
  rcases hi with rfl | rfl <;> omega
theorem CacheM.apartG {S : Nat → Prop} (h : CacheM T w c bm base n m k F E) (q : G S w w') (hS : ∀ i, S i → i ≠ c ∧ i ≠ bm ∧ ∀ e ∈ E, i ≠ e.b ∧ (i < e.lo ∨ e.hi ≤ i)) : CacheM T w' c bm base n m k F E := by
  obtain ⟨D, hD, hF⟩ := h.map
  refine ⟨q.obj (fun hs => (hS _ hs).1 rfl) h.obj, ⟨D, ?_, hF⟩, h.lt, h.lb, Nat.le_trans h.le q.size, fun e he => ?_, h.apart⟩
  · obtain ⟨es, clock, hb, r⟩ := hD
    exact ⟨es, clock, q.obj (fun hs => (hS _ hs).2.1 rfl) hb, r⟩
  · have he' := h.ents e he
    exact ⟨q.obj (fun hs => ((hS _ hs).2.2 e he).1 rfl) he'.obj, q.tabN he'.tab (fun i h1 h2 hs => by have := ((hS i hs).2.2 e he).2; omega), he'.right, he'.low, he'.ord⟩
theorem CacheM.g {S : Nat → Prop} (h : CacheM T w c bm base n m k F E) (q : G S w w') (hS : ∀ i, S i → i < base ∧ i ≠ c ∧ i ≠ bm) : CacheM T w' c bm base n m k F E :=
  h.apartG q fun i hi => ⟨(hS i hi).2.1, (hS i hi).2.2, fun e he => by
    have := h.ents e he
    have h1 := this.low
    have h2 := this.ord
    have h3 := (hS i hi).1
    exact ⟨by omega, by omega⟩⟩
theorem CacheM.keepB (h : CacheM T w c bm base n m k F E) (q : B w w') : CacheM T w' c bm base n m k F E := h.g (q.g (fun _ => False)) (fun _ h => h.elim)
/-- Its own block is written: the world behind is the one in which the lock, or a count, holds something else. -/
theorem one_own (w : World) (c j : Nat) (v : Value) : G (fun i => i = c) w (w.setCell ⟨c, j, none⟩ v) := (G.refl (fun i => i = c) w).setCell (p := ⟨c, j, none⟩) (.inl rfl) v
theorem CacheM.put (h : CacheM T w c bm base n m k F E) {w' : World} {n' m' : Nat} (q : G (fun i => i = c) w w') (ho : w'.heap[c]? = some (.cells #[.int .i64 n', .int .i64 m', .int .i32 0, .int .u32 0, .map (some bm)] 157 (0, 0))) :
    CacheM T w' c bm base n' m' k F E := by
  obtain ⟨D, hD, hF⟩ := h.map
  have h1 := h.lt
  have h2 := h.lb
  refine ⟨ho, ⟨D, ?_, hF⟩, h.lt, h.lb, Nat.le_trans h.le q.size, fun e he => (h.ents e he).g q (fun i hi => by omega), h.apart⟩
  obtain ⟨es, clock, hb, r⟩ := hD
  exact ⟨es, clock, q.obj (by omega) hb, r⟩
end
/-- An entry that is made is one more. -/
theorem CacheM.more {T : World → Value → List (Int × Int) → Prop} {w : World} {c bm base n : Nat} {E : List Ent} {x : Ent} (hn : ∀ e ∈ E, e.l ≠ x.l)
    (h : CacheM T w c bm base n (E.length + 1) (E.length + 1) (fun l => if l = x.l then .lit (.int .i64 x.b) else entD E l) E) (hx : EntAt T base w x) (hb : ∀ e ∈ E, e.hi ≤ x.b) : CacheC T w c bm base n (E ++ [x]) := by
  have e1 : (E ++ [x]).length = E.length + 1 := by simp
  unfold CacheC
  rw [e1]
  obtain ⟨D, hD, hF⟩ := h.map
  refine ⟨h.obj, ⟨D, hD, fun l => (hF l).trans (entD_snoc E x hn l).symm⟩, h.lt, h.lb, h.le, fun e he => ?_, ?_⟩
  · rcases List.mem_append.1 he with he | he
    · exact h.ents e he
    · rw [List.mem_singleton] at he
      subst he
      exact hx
  · rw [List.pairwise_append]
    refine ⟨h.apart, List.pairwise_singleton _ _, fun a ha b hb' => ?_⟩
    rw [List.mem_singleton] at hb'
    subst hb'
    exact ⟨hn a ha, hb a ha⟩
theorem str_law : Keyed Try.prog 9 := string_keyed Try.underlying9
end Go.Proofs.Ytnmcgleanpdlmaa

namespace Go.Proofs.Ytnmcgleanpdlmaa
open Go.RowKit
theorem B.bytes {a w : World} (h : B a w) (e : TypeId) (s : ByteArray) : B a (Lib.bytesWorld w e s) :=
  ⟨⟨h.below.os, h.below.tape, h.below.output, by rw [Lib.bytesWorld_size]; have := h.below.size; omega, fun k hk => by
    rw [Lib.bytesWorld_at_old w e s k (Nat.lt_of_lt_of_le hk h.below.size)]
    exact h.below.block k hk⟩⟩
theorem kind_dig {n : Nat} : digN n = true ↔ kindN n = 3 := by
  constructor
  · intro h
    have := digN_iff.1 h
    unfold kindN lowN capN
    simp only [Bool.and_eq_true, decide_eq_true_eq]
    rw [if_neg (by omega), if_neg (by omega), if_pos h]
  · intro h
    unfold kindN at h
    split at h; · omega
    split at h; · omega
    split at h
    · assumption
    repeat' (split at h)
    all_goals omega
end Go.Proofs.Ytnmcgleanpdlmaa

namespace Go.Proofs.Ytnmcgleanpdlmaa
open Go.RowKit
theorem kind_low {n : Nat} : lowN n = true ↔ kindN n = 1 := by
  constructor
  · intro h
    unfold kindN
    rw [if_pos h]
  · intro h
    unfold kindN at h
    split at h
    · assumption
    repeat' (split at h)
    all_goals omega
set_option maxHeartbeats 1000000 in
theorem name_any (s : ByteArray) (w : World) : Calls Try.prog 71 #[.string s] w fun e w' => e = .returned (.bool (nameS s)) ∧ B w w' := by
  have hE := toList_empty s
  by_cases h2 : 16 < s.size
  · have h2B : decide ((16 : Int) < (s.size : Int)) = true := decide_eq_true (by omega)
    rw [nameS_size (.inr h2)]
    clear h2 hE
    go_enter Try.func71, Try.ntmps71
    go_wp2
    go_ret
    exact ⟨rfl, B.refl _⟩
  have h2B : decide ((16 : Int) < (s.size : Int)) = false := decide_eq_false (by omega)
  by_cases h1 : s.size < 1
  · rw [decide_eq_true h1] at hE
    rw [nameS_size (.inl h1)]
    clear h1 h2
    go_enter Try.func71, Try.ntmps71
    go_wp2
    go_ret
    exact ⟨rfl, B.refl _⟩
  rw [decide_eq_false h1] at hE
  have hz : (0 : Int) < (s.size : Int) := by omega
  have hz' : 0 < s.size := by omega
  have hg0 : ∀ h : 0 < s.size, (s[0]'h).toNat = byteAt s 0 := fun h => byteAt_get s 0 h
  have ck := fun w => kind_any (byteAt s 0) w
  cases h3 : lowN (byteAt s 0)
  · have hK : ((kindN (byteAt s 0) : Int) != 1) = true := by
      have : kindN (byteAt s 0) ≠ 1 := fun e => by rw [kind_low.2 e] at h3; cases h3
      simp; omega
    rw [nameS_first h3]
    obtain ⟨m, hm⟩ : ∃ m, byteAt s 0 = m := ⟨_, rfl⟩
    rw [hm] at hg0 hK ck
    generalize kindN m = K at *
    clear h1 h2 h3 hm
    go_enter Try.func71, Try.ntmps71
    go_wp2_with fail
    refine (ck _).mono ?_
    rintro e w1 ⟨rfl, rfl⟩
    go_wp2
    go_ret
    exact ⟨rfl, B.refl _⟩
  have hK : ((kindN (byteAt s 0) : Int) != 1) = false := by
    have := kind_low.1 h3
    simp; omega
  have hconv := fun w => Lib.run_convert_string_bytes (P := Try.prog) w 9 174 5 s Try.underlying9 Try.underlying174 Try.underlying5
  have hcell : ∀ j, j < s.size → (Lib.bytesWorld w 5 s).cell? ⟨w.heap.size, j, none⟩ = some (.int .u8 ((byteAt s j : Nat) : Int)) := fun j hj => Lib.bytesWorld_cell w _ s j hj
  have HB := Lib.hid ((B.refl w).bytes 5 s)
  have hgood := Lib.hid (fun h => nameS_good (s := s) (by omega) (by omega) h3 h)
  have hbad := Lib.hid (show ∀ i, i < s.size → (lowN (byteAt s i) || digN (byteAt s i)) = false → nameS s = false from fun i h1 h2 => nameS_bad h1 h2)
  generalize nameS s = R at *
  have HSZ := Lib.hid (show s.size ≤ 16 by omega)
  generalize hb0 : byteAt s 0 = b0 at hg0 hK ck
  generalize kindN b0 = K at *
  clear h1 h2 h3 hb0
  go_enter Try.func71, Try.ntmps71
  go_wp2_with fail
  refine (ck _).mono ?_
  rintro e w1 ⟨rfl, rfl⟩
  clear ck
  go_wp2
  clear hg0 hK hE h2B
  generalize Lib.bytesWorld w 5 s = W1 at *
  generalize w.heap.size = H at *
  go_loopw [22] (fun iv wr => ∃ k : Nat, k ≤ s.size ∧ iv = .int .i64 k ∧ (∀ j, j < k → (lowN (byteAt s j) || digN (byteAt s j)) = true) ∧ W1 = wr) (fun iv _ => s.size + 1 - (intOf iv).toNat)
  case atStart => exact ⟨0, Nat.zero_le _, rfl, fun j hj => by omega, rfl⟩
  case round =>
    obtain ⟨k, hk, rfl, hall, rfl⟩ := hrel
    by_cases hl : k < s.size
    · have hlB : decide ((k : Int) < (s.size : Int)) = true := decide_eq_true (by omega)
      have hlI : (k : Int) < (s.size : Int) := by omega
      have wk1 : IntKind.i64.wrap ((k : Int) + 1) = (k : Int) + 1 := by have := HSZ.out; rw [IntKind.wrap_i64]; omega
      have hc := hcell k hl
      have ck := fun w => kind_any (byteAt s k) w
      have hnext : (lowN (byteAt s k) || digN (byteAt s k)) = true → ∀ j, j < k + 1 → (lowN (byteAt s j) || digN (byteAt s j)) = true := fun h j hj => by
        by_cases c : j = k
        · subst c; exact h
        · exact hall j (by omega)
      obtain ⟨m, hm⟩ : ∃ m, byteAt s k = m := ⟨_, rfl⟩
      have hb := hbad.out k hl
      rw [hm] at hc ck hnext hb
      by_cases c1 : kindN m = 1
      · have hK : ((kindN m : Int) != 1) = false := by simp; omega
        have HA := Lib.hid (And.intro (hnext (by rw [kind_low.2 c1]; rfl)) hl)
        generalize kindN m = K at *
        clear hnext hb hall hm c1 hcell hbad hgood HB hl hk
        go_wp2_with fail
        refine (ck _).mono ?_
        rintro e w1 ⟨rfl, rfl⟩
        clear ck
        go_wp2
        go_roundw
        case rel => exact ⟨k + 1, by have := HA.out.2; omega, by go_num, HA.out.1, trivial⟩
        case measure => have := HA.out.2; simp [intOf]; omega
      by_cases c3 : kindN m = 3
      · have hK : ((kindN m : Int) != 1) = true := by simp; omega
        have hK3 : ((kindN m : Int) != 3) = false := by simp; omega
        have HA := Lib.hid (And.intro (hnext (by rw [kind_dig.2 c3]; simp)) hl)
        generalize kindN m = K at *
        clear hnext hb hall hm c1 c3 hcell hbad hgood HB hl hk
        go_wp2_with fail
        refine (ck _).mono ?_
        rintro e w1 ⟨rfl, rfl⟩
        clear ck
        go_wp2
        go_roundw
        case rel => exact ⟨k + 1, by have := HA.out.2; omega, by go_num, HA.out.1, trivial⟩
        case measure => have := HA.out.2; simp [intOf]; omega
      · have hK : ((kindN m : Int) != 1) = true := by simp; omega
        have hK3 : ((kindN m : Int) != 3) = true := by simp; omega
        have e1 : lowN m = false := by
          cases h : lowN m
          · rfl
          · exact absurd (kind_low.1 h) c1
        have e3 : digN m = false := by
          cases h : digN m
          · rfl
          · exact absurd (kind_dig.1 h) c3
        obtain rfl := hb (by rw [e1, e3]; rfl)
        generalize kindN m = K at *
        clear hnext hb hall hm c1 c3 e1 e3 hcell hbad hgood hl hk
        go_wp2_with fail
        refine (ck _).mono ?_
        rintro e w1 ⟨rfl, rfl⟩
        clear ck
        go_wp2
        go_ret
        exact ⟨rfl, HB.out⟩
    · have hlB : decide ((k : Int) < (s.size : Int)) = false := decide_eq_false (by omega)
      have HR := Lib.hid (hgood.out (fun i hi => hall i (by omega)))
      clear hall hgood hbad hcell hk
      go_wp2
      go_ret
      exact ⟨by rw [HR.out]; rfl, HB.out⟩
end Go.Proofs.Ytnmcgleanpdlmaa
