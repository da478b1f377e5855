/-
  Plain mathematics of tables: areas, bounds of slices, their sums, what lies between. No program is named here.
-/
import Derived.Test.YtkiepmfknbbeaaaSideo
namespace Go.Proofs.Ytkiepmfknbbeaaa
open Go.RowKit

/-- An area of sides. -/
def areaM (r : Bool) (a b : Int) (up : Bool) : Int :=
  if r then (if up then (a * a * 355 + 451) / 452 else a * a * 333 / 424) else a * b
/-- The lower and the upper area of a slice. -/
def lowA (s : Sec) (t : Int) : Int := areaM s.r (min (sideOf s t false).1 (sideOf s (t + 100) false).1) (min (sideOf s t false).2 (sideOf s (t + 100) false).2) false
def highA (s : Sec) (t : Int) : Int := areaM s.r (max (sideOf s t true).1 (sideOf s (t + 100) true).1) (max (sideOf s t true).2 (sideOf s (t + 100) true).2) true
/-- The slices of a section, of a shape: their two bounds. -/
def slOf (s : Sec) : List (Int × Int) := (List.range (s.h / 100).toNat).map fun (j : Nat) => (100 * lowA s (100 * (j : Int)), 100 * highA s (100 * (j : Int)))
def slAll (l : List Sec) : List (Int × Int) := l.flatMap slOf
def nSl (l : List Sec) : Nat := (slAll l).length
def lowT (L : List (Int × Int)) (k : Nat) : Int := ((L.take k).map Prod.fst).sum
def highT (L : List (Int × Int)) (k : Nat) : Int := ((L.take k).map Prod.snd).sum
/-- What lies between, by a part. -/
def trueM (lo hi p : Int) : Int := lo + (hi - lo) * p / 1000

theorem mul_le {a b c d : Int} (h0 : 0 ≤ a) (h1 : a ≤ c) (h2 : 0 ≤ b) (h3 : b ≤ d) : a * b ≤ c * d :=
  Int.le_trans (Int.mul_le_mul_of_nonneg_left h3 h0) (Int.mul_le_mul_of_nonneg_right h1 (by omega))
theorem area_le {r : Bool} {a b c d : Int} (h0 : 0 ≤ a) (h1 : a ≤ c) (h2 : 0 ≤ b) (h3 : b ≤ d) (u v : Bool) (huv : u = true → v = true) : areaM r a b u ≤ areaM r c d v := by
  unfold areaM
  cases r
  · exact mul_le h0 h1 h2 h3
  · have h4 := mul_le h0 h1 h0 h1
    have h5 := Int.mul_nonneg h0 h0
    cases u <;> cases v <;> simp at huv ⊢ <;> omega
theorem area_nonneg {r : Bool} {a b : Int} (h0 : 0 ≤ a) (h2 : 0 ≤ b) (u : Bool) : 0 ≤ areaM r a b u := by
  unfold areaM
  have h4 := Int.mul_nonneg h0 h0
  have h5 := Int.mul_nonneg h0 h2
  cases r
  · exact h5
  · cases u <;> simp <;> omega
theorem area_small {r : Bool} {a b : Int} (h0 : 0 ≤ a) (h1 : a ≤ 20000) (h2 : 0 ≤ b) (h3 : b ≤ 20000) (u : Bool) : areaM r a b u ≤ 400000000 := by
  unfold areaM
  have h4 := mul_le h0 h1 h0 h1
  have h5 := mul_le h0 h1 h2 h3
  cases r
  · simp; omega
  · cases u <;> simp <;> omega
theorem area_pos {r : Bool} {a b : Int} (h0 : 1 ≤ a) (h1 : r = false → 1 ≤ b) : 1 ≤ areaM r a b true := by
  unfold areaM
  have h4 := mul_le (a := 1) (b := 1) (by omega) h0 (by omega) h0
  cases r
  · have := mul_le (a := 1) (b := 1) (by omega) h0 (by omega) (h1 rfl)
    simp; omega
  · simp; omega

/-- Sides of a section that may be, at a height of it. -/
theorem sideOf_in {s : Sec} (h : secOk s = true) (t : Int) (up : Bool) : 0 ≤ (sideOf s t up).1 ∧ (sideOf s t up).1 ≤ 20000 ∧ 0 ≤ (sideOf s t up).2 ∧ (sideOf s t up).2 ≤ 20000 := by
  obtain ⟨h1, h2, h3, h4, h5, h6, h7, h8, h9, h10, _⟩ := secOk_all h
  rw [sideOf_ok h]
  obtain ⟨_, _, f1, f2⟩ := side_fits h3 h4 (by omega) h6 (show 0 ≤ min (max t 0) s.h by omega) (by omega) h1 up
  obtain ⟨_, _, g1, g2⟩ := side_fits h7 h8 h9 h10 (show 0 ≤ min (max t 0) s.h by omega) (by omega) h1 up
  refine ⟨by simp only; omega, by simp only; omega, ?_, ?_⟩
  · cases s.r <;> simp <;> omega
  · cases s.r <;> simp <;> omega
theorem sideOf_ways {s : Sec} (h : secOk s = true) (t : Int) : (sideOf s t false).1 ≤ (sideOf s t true).1 ∧ (sideOf s t false).2 ≤ (sideOf s t true).2 := by
  obtain ⟨h1, h2, h3, h4, h5, h6, h7, h8, h9, h10, _⟩ := secOk_all h
  rw [sideOf_ok h, sideOf_ok h]
  have f := side_ways h3 h4 (by omega) h6 (show 0 ≤ min (max t 0) s.h by omega) (by omega) h1
  have g := side_ways h7 h8 h9 h10 (show 0 ≤ min (max t 0) s.h by omega) (by omega) h1
  refine ⟨f.1, ?_⟩
  cases s.r <;> simp <;> omega
/-- Above its bottom a side that opens is there. -/
theorem side_pos {x0 x1 t h : Int} (a0 : 0 ≤ x0) (b0 : x0 ≤ 20000) (a1 : 1 ≤ x1) (b1 : x1 ≤ 20000) (h0 : 1 ≤ t) (h1 : t ≤ h) : 1 ≤ sideM x0 x1 t h true := by
  obtain ⟨_, e, _, _⟩ := side_fits a0 b0 (show 0 ≤ x1 by omega) b1 (show 0 ≤ t by omega) h1 (by omega) true
  unfold sideM
  rw [e, mq_pos _ _ _ (by omega)]
  have hq : (x1 - x0) * t ≤ mdQ ((x1 - x0) * t) h true * h := by
    unfold mdQ
    simp only [if_true]
    have := Int.ediv_mul_le (-((x1 - x0) * t)) (show h ≠ 0 by omega)
    rw [Int.neg_mul]
    omega
  generalize mdQ ((x1 - x0) * t) h true = q at *
  by_cases c : 1 ≤ x0 + q
  · exact c
  · exfalso
    have h2 : q * h ≤ (-x0) * h := Int.mul_le_mul_of_nonneg_right (by omega) (by omega)
    have h3 : (x1 - x0) * t + x0 * h = x1 * t + x0 * (h - t) := by rw [Int.sub_mul, Int.mul_sub]; omega
    have h4 : 1 * 1 ≤ x1 * t := mul_le (by omega) a1 (by omega) h0
    have h5 : 0 ≤ x0 * (h - t) := Int.mul_nonneg a0 (by omega)
    rw [Int.neg_mul] at h2
    omega
theorem sideOf_pos {s : Sec} (h : secOk s = true) (t : Int) (ht : 1 ≤ t) : 1 ≤ (sideOf s t true).1 ∧ (s.r = false → 1 ≤ (sideOf s t true).2) := by
  obtain ⟨h1, h2, h3, h4, h5, h6, h7, h8, h9, h10, _⟩ := secOk_all h
  rw [sideOf_ok h]
  refine ⟨side_pos h3 h4 h5 h6 (by omega) (by omega), fun hr => ?_⟩
  have hb1 : 1 ≤ s.b1 := by
    unfold secOk at h
    rw [hr] at h
    simp only [Bool.and_eq_true, decide_eq_true_eq, inB_iff] at h
    have := h.2
    simp [inB_iff] at this
    omega
  simp [hr]
  exact side_pos h7 h8 hb1 h10 (by omega) (by omega)

/-- Both bounds of a slice. -/
theorem slice_bounds {s : Sec} (h : secOk s = true) (t : Int) (ht : 0 ≤ t) : 0 ≤ lowA s t ∧ lowA s t ≤ highA s t ∧ 1 ≤ highA s t ∧ highA s t ≤ 400000000 := by
  obtain ⟨a1, a2, a3, a4⟩ := sideOf_in h t false
  obtain ⟨b1, b2, b3, b4⟩ := sideOf_in h (t + 100) false
  obtain ⟨c1, c2, c3, c4⟩ := sideOf_in h t true
  obtain ⟨d1, d2, d3, d4⟩ := sideOf_in h (t + 100) true
  obtain ⟨e1, e2⟩ := sideOf_ways h t
  obtain ⟨f1, f2⟩ := sideOf_pos h (t + 100) (by omega)
  unfold lowA highA
  refine ⟨area_nonneg (by omega) (by omega) _, area_le (by omega) (by omega) (by omega) (by omega) _ _ (by simp), area_pos (by omega) (fun hr => by have := f2 hr; omega), area_small (by omega) (by omega) (by omega) (by omega) _⟩

/-- Bounds of slices as they may be. -/
structure Bnd (x : Int × Int) : Prop where
  a : 0 ≤ x.1
  b : x.1 ≤ x.2
  c : 1 ≤ x.2
  d : x.2 ≤ 40000000000
theorem slOf_bnd {s : Sec} (h : secOk s = true) : ∀ x ∈ slOf s, Bnd x := by
  intro x hx
  unfold slOf at hx
  obtain ⟨j, _, rfl⟩ := List.mem_map.1 hx
  obtain ⟨a, b, c, d⟩ := slice_bounds h (100 * (j : Int)) (by omega)
  exact ⟨by simp only; omega, by simp only; omega, by simp only; omega, by simp only; omega⟩
theorem slAll_bnd {l : List Sec} (h : ∀ s ∈ l, secOk s = true) : ∀ x ∈ slAll l, Bnd x := by
  intro x hx
  obtain ⟨s, hs, hx⟩ := List.mem_flatMap.1 hx
  exact slOf_bnd (h s hs) x hx
theorem lowT_succ (L : List (Int × Int)) (k : Nat) (x : Int × Int) (h : L[k]? = some x) : lowT L (k + 1) = lowT L k + x.1 := by
  unfold lowT
  rw [List.take_add_one, h]
  simp
theorem highT_succ (L : List (Int × Int)) (k : Nat) (x : Int × Int) (h : L[k]? = some x) : highT L (k + 1) = highT L k + x.2 := by
  unfold highT
  rw [List.take_add_one, h]
  simp
/-- The bounds of a table, all that the laws ask. -/
theorem table_bnd {L : List (Int × Int)} (h : ∀ x ∈ L, Bnd x) : ∀ k : Nat, 0 ≤ lowT L k ∧ lowT L k ≤ highT L k ∧ highT L k ≤ 40000000000 * (k : Int)
  | 0 => by simp [lowT, highT]
  | k + 1 => by
    have ih := table_bnd h k
    cases hg : L[k]? with
    | none =>
      have e : L.take (k + 1) = L.take k := by rw [List.take_add_one, hg]; simp
      unfold lowT highT at *
      rw [e]
      omega
    | some x =>
      obtain ⟨a, b, c, d⟩ := h x (List.mem_of_getElem? hg)
      rw [lowT_succ L k x hg, highT_succ L k x hg]
      omega
theorem table_rise {L : List (Int × Int)} (h : ∀ x ∈ L, Bnd x) (k : Nat) (hk : k < L.length) : lowT L k ≤ lowT L (k + 1) ∧ highT L k < highT L (k + 1) := by
  have hg := List.getElem?_eq_getElem hk
  obtain ⟨a, b, c, d⟩ := h _ (List.mem_of_getElem? hg)
  rw [lowT_succ L k _ hg, highT_succ L k _ hg]
  omega
theorem true_between {lo hi p : Int} (h : lo ≤ hi) (p0 : 0 ≤ p) (p1 : p ≤ 1000) : lo ≤ trueM lo hi p ∧ trueM lo hi p ≤ hi := by
  unfold trueM
  have h1 : 0 ≤ (hi - lo) * p := Int.mul_nonneg (by omega) p0
  have h2 : (hi - lo) * p ≤ (hi - lo) * 1000 := Int.mul_le_mul_of_nonneg_left p1 (by omega)
  omega
theorem true_parts {lo hi p q : Int} (h : lo ≤ hi) (hpq : p ≤ q) : trueM lo hi p ≤ trueM lo hi q := by
  unfold trueM
  have h1 : (hi - lo) * p ≤ (hi - lo) * q := Int.mul_le_mul_of_nonneg_left hpq (by omega)
  omega
theorem true_rise {lo hi lo' hi' p : Int} (h1 : lo ≤ lo') (h2 : hi ≤ hi') (p0 : 0 ≤ p) (p1 : p ≤ 1000) : trueM lo hi p ≤ trueM lo' hi' p := by
  unfold trueM
  have a1 : 0 ≤ (lo' - lo) * (1000 - p) := Int.mul_nonneg (by omega) (by omega)
  have a2 : 0 ≤ (hi' - hi) * p := Int.mul_nonneg (by omega) p0
  rw [Int.sub_mul] at *
  rw [Int.mul_sub, Int.mul_sub] at a1
  rw [Int.sub_mul]
  omega
theorem true_same (lo p : Int) : trueM lo lo p = lo := by
  unfold trueM
  simp

/-- Two pieces one above the other. -/
theorem slAll_append (l m : List Sec) : slAll (l ++ m) = slAll l ++ slAll m := by
  unfold slAll
  rw [List.flatMap_append]
theorem lowT_append (L M : List (Int × Int)) (i : Nat) : lowT (L ++ M) (L.length + i) = lowT L L.length + lowT M i := by
  unfold lowT
  rw [List.take_length_add_append, List.take_length, List.map_append, List.sum_append]
theorem highT_append (L M : List (Int × Int)) (i : Nat) : highT (L ++ M) (L.length + i) = highT L L.length + highT M i := by
  unfold highT
  rw [List.take_length_add_append, List.take_length, List.map_append, List.sum_append]
theorem lowT_left (L M : List (Int × Int)) (i : Nat) (h : i ≤ L.length) : lowT (L ++ M) i = lowT L i := by
  unfold lowT
  rw [List.take_append_of_le_length h]

/-- How many slices there are: the height by a slice's. -/
theorem slOf_len (s : Sec) : (slOf s).length = (s.h / 100).toNat := by simp [slOf]
theorem secOk_mod {s : Sec} (h : secOk s = true) : s.h % 100 = 0 := by
  unfold secOk at h
  simp only [Bool.and_eq_true, decide_eq_true_eq] at h
  have h1 := h.1.1.1.1.1
  have h2 := h.1.1.1.2
  rwa [Int.tmod_eq_emod_of_nonneg (by omega)] at h2
theorem slAll_len : ∀ (l : List Sec), (∀ s ∈ l, secOk s = true) → 100 * ((slAll l).length : Int) = hsumI l l.length
  | [], _ => by simp [slAll, hsumI]
  | s :: l, h => by
    have ih := slAll_len l (fun x hx => h x (List.mem_cons_of_mem _ hx))
    have h0 := h s List.mem_cons_self
    have h1 := secOk_h s h0
    have h2 := secOk_mod h0
    have e : hsumI (s :: l) (s :: l).length = s.h + hsumI l l.length := by
      unfold hsumI
      rw [List.take_length, List.take_length, List.foldl_cons]
      have : ∀ (m : List Sec) (a : Int), m.foldl (fun t x => t + x.h) a = a + m.foldl (fun t x => t + x.h) 0 := by
        intro m
        induction m with
        | nil => simp
        | cons y m ih => intro a; rw [List.foldl_cons, List.foldl_cons, ih, ih (0 + y.h)]; omega
      rw [this]; omega
    have e2 : (slAll (s :: l)).length = (s.h / 100).toNat + (slAll l).length := by
      show (slOf s ++ slAll l).length = _
      rw [List.length_append, slOf_len]
    rw [e, e2]
    omega

/-- A straight box. -/
theorem side_flat {x t h : Int} (hh : 1 ≤ h) (up : Bool) : sideM x x t h up = x := by
  unfold sideM
  have : mq (x - x) t h up = 0 := by
    rw [mq_pos _ _ _ (by omega), Int.sub_self, Int.zero_mul]
    cases up <;> simp [mdQ]
  rw [mv, if_neg (by omega), this]
  simp [qv, I64]
theorem sideOf_flat {s : Sec} (h : secOk s = true) (ha : s.a0 = s.a1) (hb : s.b0 = s.b1) (t : Int) (up : Bool) : sideOf s t up = (s.a0, if s.r then 0 else s.b0) := by
  obtain ⟨h1, _⟩ := secOk_all h
  rw [sideOf_ok h, ← ha, ← hb, side_flat h1, side_flat h1]
theorem flat_low {s : Sec} (h : secOk s = true) (ha : s.a0 = s.a1) (hb : s.b0 = s.b1) (t : Int) : lowA s t = areaM s.r s.a0 (if s.r then 0 else s.b0) false := by
  unfold lowA
  rw [sideOf_flat h ha hb, sideOf_flat h ha hb]
  simp only [Int.min_self]
theorem flat_high {s : Sec} (h : secOk s = true) (ha : s.a0 = s.a1) (hb : s.b0 = s.b1) (t : Int) : highA s t = areaM s.r s.a0 (if s.r then 0 else s.b0) true := by
  unfold highA
  rw [sideOf_flat h ha hb, sideOf_flat h ha hb]
  simp only [Int.max_self]
theorem flat_slices {s : Sec} (h : secOk s = true) (ha : s.a0 = s.a1) (hb : s.b0 = s.b1) :
    slAll [s] = List.replicate (s.h / 100).toNat (100 * areaM s.r s.a0 (if s.r then 0 else s.b0) false, 100 * areaM s.r s.a0 (if s.r then 0 else s.b0) true) := by
  have e : slAll [s] = slOf s := by simp [slAll]
  rw [e]
  unfold slOf
  simp only [flat_low h ha hb, flat_high h ha hb]
  rw [List.map_const', List.length_range]
theorem rep_low (n k : Nat) (x : Int × Int) (h : k ≤ n) : lowT (List.replicate n x) k = x.1 * (k : Int) := by
  unfold lowT
  rw [List.take_replicate, show min k n = k by omega, List.map_replicate]
  induction k with
  | zero => simp
  | succ k ih => rw [List.replicate_succ, List.sum_cons, ih (by omega)]; push_cast; rw [Int.mul_add]; omega
theorem rep_high (n k : Nat) (x : Int × Int) (h : k ≤ n) : highT (List.replicate n x) k = x.2 * (k : Int) := by
  unfold highT
  rw [List.take_replicate, show min k n = k by omega, List.map_replicate]
  induction k with
  | zero => simp
  | succ k ih => rw [List.replicate_succ, List.sum_cons, ih (by omega)]; push_cast; rw [Int.mul_add]; omega

/-- A shape whose first sides are greater. -/
def Sec.wide (d : Int) (s : Sec) : Sec := ⟨s.r, s.h, s.a0 + d, s.b0, s.a1 + d, s.b1⟩
theorem side_wide (x0 x1 t h d : Int) (up : Bool) : sideM (x0 + d) (x1 + d) t h up = sideM x0 x1 t h up + d := by
  unfold sideM
  rw [show x1 + d - (x0 + d) = x1 - x0 by omega]
  omega
theorem sideOf_wide {s : Sec} {d : Int} (h : secOk s = true) (h' : secOk (s.wide d) = true) (t : Int) (up : Bool) : sideOf (s.wide d) t up = ((sideOf s t up).1 + d, (sideOf s t up).2) := by
  rw [sideOf_ok h, sideOf_ok h']
  show (sideM (s.a0 + d) (s.a1 + d) _ _ up, _) = _
  rw [side_wide]
  rfl
theorem wide_low {s : Sec} {d : Int} (h : secOk s = true) (h' : secOk (s.wide d) = true) (hd : 0 ≤ d) (t : Int) : lowA s t ≤ lowA (s.wide d) t := by
  obtain ⟨a1, a2, a3, a4⟩ := sideOf_in h t false
  obtain ⟨b1, b2, b3, b4⟩ := sideOf_in h (t + 100) false
  unfold lowA
  rw [sideOf_wide h h', sideOf_wide h h']
  exact area_le (by omega) (by simp only; omega) (by omega) (by simp only; omega) _ _ (by simp)
theorem wide_high {s : Sec} {d : Int} (h : secOk s = true) (h' : secOk (s.wide d) = true) (hd : 0 ≤ d) (t : Int) : highA s t ≤ highA (s.wide d) t := by
  obtain ⟨a1, a2, a3, a4⟩ := sideOf_in h t true
  obtain ⟨b1, b2, b3, b4⟩ := sideOf_in h (t + 100) true
  unfold highA
  rw [sideOf_wide h h', sideOf_wide h h']
  exact area_le (by omega) (by simp only; omega) (by omega) (by simp only; omega) _ _ (by simp)
inductive AllLe : List (Int × Int) → List (Int × Int) → Prop
  | nil : AllLe [] []
  | cons {x y : Int × Int} {L M : List (Int × Int)} (h1 : x.1 ≤ y.1) (h2 : x.2 ≤ y.2) (h : AllLe L M) : AllLe (x :: L) (y :: M)
theorem AllLe.append {L M L' M' : List (Int × Int)} (h : AllLe L M) (h' : AllLe L' M') : AllLe (L ++ L') (M ++ M') := by
  induction h with
  | nil => exact h'
  | cons h1 h2 _ ih => exact .cons h1 h2 ih
theorem AllLe.map {α : Type} (f g : α → Int × Int) (h : ∀ a, (f a).1 ≤ (g a).1 ∧ (f a).2 ≤ (g a).2) : ∀ l : List α, AllLe (l.map f) (l.map g)
  | [] => .nil
  | a :: l => .cons (h a).1 (h a).2 (AllLe.map f g h l)
theorem AllLe.sums {L M : List (Int × Int)} (h : AllLe L M) : ∀ k, lowT L k ≤ lowT M k ∧ highT L k ≤ highT M k := by
  induction h with
  | nil => intro k; simp [lowT, highT]
  | cons h1 h2 _ ih =>
    intro k
    cases k with
    | zero => simp [lowT, highT]
    | succ k =>
      have := ih k
      unfold lowT highT at *
      simp only [List.take_succ_cons, List.map_cons, List.sum_cons]
      omega
theorem wide_all : ∀ (l : List Sec) (d : Int), 0 ≤ d → (∀ s ∈ l, secOk s = true) → (∀ s ∈ l, secOk (s.wide d) = true) → AllLe (slAll l) (slAll (l.map (Sec.wide d)))
  | [], _, _, _, _ => .nil
  | s :: l, d, hd, h, h' => by
    have ih := wide_all l d hd (fun x hx => h x (List.mem_cons_of_mem _ hx)) (fun x hx => h' x (List.mem_cons_of_mem _ hx))
    have h0 := h s List.mem_cons_self
    have h0' := h' s List.mem_cons_self
    refine AllLe.append (L := slOf s) (M := slOf (s.wide d)) ?_ ih
    unfold slOf
    exact AllLe.map _ _ (fun j => ⟨by have := wide_low h0 h0' hd (100 * (j : Int)); simp only; omega, by have := wide_high h0 h0' hd (100 * (j : Int)); simp only; omega⟩) _
/-- A circle's bounds, by a nearer pi. -/
theorem round_low (A : Int) (h : 0 ≤ A) : A * 333 / 424 * 1000 ≤ A * 785398164 / 1000000 + 1 := by omega
theorem round_high (A : Int) (h : 0 ≤ A) : A * 785398163 / 1000000 ≤ (A * 355 + 451) / 452 * 1000 := by omega
end Go.Proofs.Ytkiepmfknbbeaaa
