/-
  Plain facts for ShapeBends: a section of a slice that the call owns is changed; heights of right shapes. No program is named here.
-/
import Derived.Test.YthibjkjdimgipaaL3ends
import Derived.Laws.OwnMore
namespace Go.Proofs.Ythibjkjdimgipaa
open Go.RowKit

theorem flat_set : ∀ (l : List Sec) (i j : Nat) (s s' : Sec) (x : Value), l[i]? = some s → j < 6 → s'.cells = s.cells.set j x → flat (l.set i s') = (flat l).set (i * 6 + j) x
  | [], _, _, _, _, _, h, _, _ => by simp at h
  | y :: l, 0, j, s, s', x, h, hj, e => by
    simp at h
    subst h
    show s'.cells ++ flat l = (y.cells ++ flat l).set (0 * 6 + j) x
    rw [Nat.zero_mul, Nat.zero_add, List.set_append_left _ _ (by simpa [Sec.cells] using hj), e]
  | y :: l, i + 1, j, s, s', x, h, hj, e => by
    show y.cells ++ flat (l.set i s') = (y.cells ++ flat l).set ((i + 1) * 6 + j) x
    rw [List.set_append_right _ _ (by simp [Sec.cells]; omega), flat_set l i j s s' x (by simpa using h) hj e]
    congr 2
    simp [Sec.cells]
    omega
theorem sum_some (l : List Sec) (h : okTo l l.length = true) (h4 : l.length ≤ 4) : ∀ k : Nat, k ≤ l.length → hsumTo l k = hsumI l k
  | 0, _ => by simp [hsumTo, hsumI]
  | k + 1, hk => by
    have ih := sum_some l h h4 k (by omega)
    have hg := List.getElem?_eq_getElem (show k < l.length by omega)
    rw [hsumTo_succ l k _ hg, hsumI_succ l k _ hg, ih]
    have hok : ∀ s ∈ l, secOk s = true := by
      unfold okTo at h
      rw [List.take_length] at h
      exact List.all_eq_true.1 h
    have h1 : okTo l k = true := by
      unfold okTo
      exact List.all_eq_true.2 fun s hs => hok s (List.mem_of_mem_take hs)
    have h2 := hsum_small l k h1
    have h3 := secOk_h _ (hok _ (List.getElem_mem (show k < l.length by omega)))
    unfold wrap64
    omega
theorem sum_right (l : List Sec) (h : rightS l = true) : hsumTo l l.length = hsumI l l.length := by
  obtain ⟨_, h4, hok⟩ := right_all h
  refine sum_some l ?_ h4 _ (Nat.le_refl _)
  unfold okTo
  rw [List.take_length]
  exact List.all_eq_true.2 hok
theorem and_I64 (x y : Int) : I64 (bits .and .i64 x y) := by
  rw [and_i64]
  have := BitVec.toInt_lt (x := BitVec.ofInt 64 x &&& BitVec.ofInt 64 y)
  have := BitVec.le_toInt (x := BitVec.ofInt 64 x &&& BitVec.ofInt 64 y)
  unfold I64
  omega
theorem flat_len (l : List Sec) : (flat l).length = l.length * 6 := by
  induction l with
  | nil => rfl
  | cons s l ih =>
    show (s.cells ++ flat l).length = _
    rw [List.length_append, ih, List.length_cons]
    simp [Sec.cells]
    omega
theorem flat_one (l : List Sec) : ∀ u ∈ flat l, u.oneCell' = true := by
  intro u hu
  obtain ⟨s, _, hs⟩ := List.mem_flatMap.1 hu
  simp only [Sec.cells, List.mem_cons, List.not_mem_nil, or_false] at hs
  rcases hs with h | h | h | h | h | h <;> rw [h] <;> rfl
theorem add_parts (a : Addr) (k : Nat) : (a.add k).block = a.block ∧ (a.add k).off = a.off + k := by
  unfold Addr.add
  split
  · rename_i h; rw [h]; exact ⟨rfl, rfl⟩
  · exact ⟨rfl, rfl⟩
theorem add_more (a : Addr) (k r : Nat) (hr : 0 < r) : a.add (k + r) = ⟨(a.add k).block, (a.add k).off + r, none⟩ := by
  obtain ⟨h1, h2⟩ := add_parts a k
  rw [h1, h2]
  unfold Addr.add
  rw [if_neg (by omega), Nat.add_assoc]
theorem secs_news {w : World} {a : Addr} {l : List Sec} (h4 : ∀ i s, l[i]? = some s → s.I ∧ SecAt w (a.add (i * 6)) s) : ∀ j u, (flat l)[j]? = some u → w.cell? (a.add j) = some u := by
  intro j u hj
  have hlt : j < (flat l).length := (List.getElem?_eq_some_iff.1 hj).1
  rw [flat_len] at hlt
  obtain ⟨i, r, rfl, hr⟩ : ∃ i r, j = i * 6 + r ∧ r < 6 := ⟨j / 6, j % 6, by omega, by omega⟩
  have hi : i < l.length := by omega
  have hg := List.getElem?_eq_getElem hi
  obtain ⟨_, hs⟩ := h4 i _ hg
  rw [flat_get l i r _ hg hr] at hj
  match r, hr with
  | 0, _ => simp only [Sec.cells, List.getElem?_cons_zero, Option.some.injEq] at hj; rw [Nat.add_zero, ← hj]; exact hs.r
  | 1, _ => rw [add_more _ _ _ (by omega), hs.h]; exact hj
  | 2, _ => rw [add_more _ _ _ (by omega), hs.a0]; exact hj
  | 3, _ => rw [add_more _ _ _ (by omega), hs.b0]; exact hj
  | 4, _ => rw [add_more _ _ _ (by omega), hs.a1]; exact hj
  | 5, _ => rw [add_more _ _ _ (by omega), hs.b1]; exact hj
end Go.Proofs.Ythibjkjdimgipaa
