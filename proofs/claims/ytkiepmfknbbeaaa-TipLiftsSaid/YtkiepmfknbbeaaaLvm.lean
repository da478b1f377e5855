/-
  Plain mathematics of levels: how high a volume stands at least, at most, for a part; how much a height holds. No program is named here.
-/
import Derived.Test.YtkiepmfknbbeaaaR3tab
namespace Go.Proofs.Ytkiepmfknbbeaaa
open Go.RowKit

/-- The first number below n of which p holds; n if there is none. -/
def firstIx : Nat → (Nat → Bool) → Nat
  | 0, _ => 0
  | n + 1, p => if p 0 then 0 else firstIx n (fun k => p (k + 1)) + 1
theorem firstIx_le : ∀ (n : Nat) (p : Nat → Bool), firstIx n p ≤ n
  | 0, _ => Nat.le_refl _
  | n + 1, p => by
    unfold firstIx
    split
    · omega
    · have := firstIx_le n (fun k => p (k + 1)); omega
theorem firstIx_not : ∀ (n : Nat) (p : Nat → Bool) (j : Nat), j < firstIx n p → p j = false
  | 0, _, _, h => by simp [firstIx] at h
  | n + 1, p, j, h => by
    unfold firstIx at h
    by_cases c : p 0 = true
    · rw [if_pos c] at h; omega
    · rw [if_neg c] at h
      cases j with
      | zero => simpa using c
      | succ j => exact firstIx_not n (fun k => p (k + 1)) j (by omega)
theorem firstIx_hit : ∀ (n : Nat) (p : Nat → Bool), firstIx n p < n → p (firstIx n p) = true
  | 0, _, h => by omega
  | n + 1, p, h => by
    unfold firstIx at h ⊢
    by_cases c : p 0 = true
    · rw [if_pos c]; exact c
    · rw [if_neg c] at h ⊢
      exact firstIx_hit n (fun k => p (k + 1)) (by omega)
theorem firstIx_is {n : Nat} {p : Nat → Bool} {i : Nat} (h0 : i ≤ n) (h1 : ∀ j, j < i → p j = false) (h2 : i < n → p i = true) : firstIx n p = i := by
  have a := firstIx_le n p
  rcases Nat.lt_trichotomy (firstIx n p) i with c | c | c
  · have := firstIx_hit n p (by omega)
    rw [h1 _ c] at this; cases this
  · exact c
  · have := firstIx_not n p i c
    rw [h2 (by omega)] at this; cases this
theorem firstIx_mono {n : Nat} {p q : Nat → Bool} (h : ∀ i, i < n → q i = true → p i = true) : firstIx n p ≤ firstIx n q := by
  have a := firstIx_le n p
  have b := firstIx_le n q
  by_cases c : firstIx n p ≤ firstIx n q
  · exact c
  · have h1 := firstIx_not n p (firstIx n q) (by omega)
    have h2 := firstIx_hit n q (by omega)
    rw [h _ (by omega) h2] at h1; cases h1
theorem firstIx_ge {n : Nat} {p : Nat → Bool} {i : Nat} (h0 : i ≤ n) (h1 : ∀ j, j < i → p j = false) : i ≤ firstIx n p := by
  by_cases c : i ≤ firstIx n p
  · exact c
  · have := firstIx_hit n p (by omega)
    rw [h1 _ (by omega)] at this; cases this
theorem firstIx_to {n : Nat} {p : Nat → Bool} {i : Nat} (h1 : p i = true) : firstIx n p ≤ i := by
  by_cases c : firstIx n p ≤ i
  · exact c
  · have := firstIx_not n p i (by omega)
    rw [h1] at this; cases this

/-- Cubic micrometres of nanolitres. -/
def cubM (v : Int) : Int := min (max v 0) 1000000000 * 1000000
theorem cub_bnd (v : Int) : 0 ≤ cubM v ∧ cubM v ≤ 1000000000000000 := by unfold cubM; omega
theorem cub_mono {v u : Int} (h : v ≤ u) : cubM v ≤ cubM u := by unfold cubM; omega
def lvLow (L : List (Int × Int)) (v : Int) : Int := 100 * (firstIx L.length (fun i => decide (cubM v < highT L (i + 1))) : Int)
def lvHigh (L : List (Int × Int)) (v : Int) : Int := 100 * (firstIx (L.length + 1) (fun i => decide (cubM v ≤ lowT L i)) : Int)
/-- The level of sums t. -/
def lvT (t : Nat → Int) (n : Nat) (x : Int) : Int :=
  if t n < x then 100 * (n : Int) + 1 else if x = 0 then 0 else
    100 * ((firstIx (n + 1) (fun i => decide (x ≤ t i)) : Int) - 1) + (x - t (firstIx (n + 1) (fun i => decide (x ≤ t i)) - 1)) * 100 / (t (firstIx (n + 1) (fun i => decide (x ≤ t i))) - t (firstIx (n + 1) (fun i => decide (x ≤ t i)) - 1))
def trI (L : List (Int × Int)) (part : Int) (i : Nat) : Int := trueM (lowT L i) (highT L i) (min (max part 0) 1000)
def lvTrue (L : List (Int × Int)) (v part : Int) : Int := lvT (trI L part) L.length (cubM v)
def hgtM (L : List (Int × Int)) (h : Int) : Int := min (max h 0) (L.length * 100)
def lvVol (L : List (Int × Int)) (h : Int) (up : Bool) : Int :=
  if up then (highT L ((hgtM L h + 99) / 100).toNat + 999999) / 1000000 else lowT L (hgtM L h / 100).toNat / 1000000

/-- Where a volume stands that fits. -/
theorem lvT_mid {t : Nat → Int} {n : Nat} {x : Int} (t0 : t 0 = 0) (h0 : 0 < x) (h1 : x ≤ t n) : ∃ i : Nat, firstIx (n + 1) (fun i => decide (x ≤ t i)) = i + 1 ∧ i + 1 ≤ n ∧ t i < x ∧ x ≤ t (i + 1) ∧
    lvT t n x = 100 * (i : Int) + (x - t i) * 100 / (t (i + 1) - t i) := by
  have a : firstIx (n + 1) (fun i => decide (x ≤ t i)) ≤ n := firstIx_to (by simpa using h1)
  have b := firstIx_hit (n + 1) (fun i => decide (x ≤ t i)) (by omega)
  have c := firstIx_not (n + 1) (fun i => decide (x ≤ t i))
  unfold lvT
  rw [if_neg (by omega), if_neg (by omega)]
  generalize firstIx (n + 1) (fun i => decide (x ≤ t i)) = f at *
  cases f with
  | zero => simp [t0] at b; omega
  | succ i =>
    have := c i (by omega)
    simp only [decide_eq_true_eq, decide_eq_false_iff_not, Int.not_le] at b this
    exact ⟨i, rfl, a, this, b, by simp only [Nat.add_sub_cancel]; push_cast; congr 1; omega⟩
theorem frac_bnd {x a b : Int} (h0 : a < x) (h1 : x ≤ b) : 0 ≤ (x - a) * 100 / (b - a) ∧ (x - a) * 100 / (b - a) ≤ 100 ∧ (x = b → (x - a) * 100 / (b - a) = 100) := by
  refine ⟨Int.ediv_nonneg (by omega) (by omega), ?_, fun e => ?_⟩
  · have := Int.ediv_le_ediv (show 0 < b - a by omega) (show (x - a) * 100 ≤ 100 * (b - a) by omega)
    rwa [Int.mul_ediv_cancel _ (by omega)] at this
  · subst e
    rw [Int.mul_comm, Int.mul_ediv_cancel _ (by omega)]
/-- Which level it is, at all. -/
theorem lvT_bnd {t : Nat → Int} {n : Nat} {x : Int} (t0 : t 0 = 0) (h0 : 0 ≤ x) : 0 ≤ lvT t n x ∧ lvT t n x ≤ 100 * (n : Int) + 1 ∧ (x ≤ t n → lvT t n x ≤ 100 * (n : Int)) ∧ (t n < x → lvT t n x = 100 * (n : Int) + 1) := by
  by_cases c : t n < x
  · have e : lvT t n x = 100 * (n : Int) + 1 := by unfold lvT; rw [if_pos c]
    rw [e]; exact ⟨by omega, by omega, fun h => by omega, fun _ => rfl⟩
  · by_cases d : x = 0
    · have e : lvT t n x = 0 := by unfold lvT; rw [if_neg c, if_pos d]
      rw [e]; exact ⟨by omega, by omega, fun h => by omega, fun h => by omega⟩
    · obtain ⟨i, _, h2, h3, h4, e⟩ := lvT_mid t0 (show 0 < x by omega) (show x ≤ t n by omega)
      have := frac_bnd h3 h4
      rw [e]
      exact ⟨by omega, by omega, fun _ => by omega, fun h => by omega⟩
theorem lvT_mono {t : Nat → Int} {n : Nat} {x y : Int} (t0 : t 0 = 0) (h0 : 0 ≤ x) (h : x ≤ y) : lvT t n x ≤ lvT t n y := by
  have bx := lvT_bnd (t := t) (n := n) t0 h0
  have bY := lvT_bnd (t := t) (n := n) t0 (show 0 ≤ y by omega)
  by_cases c : t n < y
  · rw [bY.2.2.2 c]; exact bx.2.1
  · by_cases d : x = 0
    · have e : lvT t n x = 0 := by unfold lvT; rw [if_neg (by omega), if_pos d]
      rw [e]; exact bY.1
    · obtain ⟨i, i1, i2, i3, i4, e⟩ := lvT_mid t0 (show 0 < x by omega) (show x ≤ t n by omega)
      obtain ⟨j, j1, j2, j3, j4, e'⟩ := lvT_mid t0 (show 0 < y by omega) (show y ≤ t n by omega)
      have hij : firstIx (n + 1) (fun i => decide (x ≤ t i)) ≤ firstIx (n + 1) (fun i => decide (y ≤ t i)) := firstIx_mono (fun k _ hk => by simp only [decide_eq_true_eq] at hk ⊢; omega)
      rw [i1, j1] at hij
      have f1 := frac_bnd i3 i4
      have f2 := frac_bnd j3 j4
      rw [e, e']
      by_cases k : i = j
      · subst k
        have := Int.ediv_le_ediv (show 0 < t (i + 1) - t i by omega) (show (x - t i) * 100 ≤ (y - t i) * 100 by omega)
        omega
      · omega
/-- A greater part stands lower, but for a slice. -/
theorem lvT_parts {s t : Nat → Int} {n : Nat} {x : Int} (s0 : s 0 = 0) (t0 : t 0 = 0) (h0 : 0 ≤ x) (h : ∀ i, s i ≤ t i) : lvT t n x ≤ lvT s n x + 100 := by
  have bs := lvT_bnd (t := s) (n := n) s0 h0
  have bt := lvT_bnd (t := t) (n := n) t0 h0
  have hn := h n
  by_cases c : s n < x
  · rw [bs.2.2.2 c]; omega
  · by_cases d : x = 0
    · have e : lvT t n x = 0 := by unfold lvT; rw [if_neg (by omega), if_pos d]
      rw [e]; omega
    · obtain ⟨i, i1, i2, i3, i4, e⟩ := lvT_mid s0 (show 0 < x by omega) (show x ≤ s n by omega)
      obtain ⟨j, j1, j2, j3, j4, e'⟩ := lvT_mid t0 (show 0 < x by omega) (show x ≤ t n by omega)
      have hij : firstIx (n + 1) (fun i => decide (x ≤ t i)) ≤ firstIx (n + 1) (fun i => decide (x ≤ s i)) := firstIx_mono (fun k _ hk => by have := h k; simp only [decide_eq_true_eq] at hk ⊢; omega)
      rw [i1, j1] at hij
      have f1 := frac_bnd i3 i4
      have f2 := frac_bnd j3 j4
      rw [e, e']
      omega

theorem trI_zero (L : List (Int × Int)) (p : Int) : trI L p 0 = 0 := by simp [trI, trueM, lowT, highT]
theorem trI_bnd {L : List (Int × Int)} (hb : TBnd L) (p : Int) (i : Nat) (hi : i ≤ L.length) : lowT L i ≤ trI L p i ∧ trI L p i ≤ highT L i :=
  true_between (hb.at i hi).2.1 (by omega) (by omega)
theorem low_all {L : List (Int × Int)} (hb : TBnd L) : ∀ (i j : Nat), i ≤ j → lowT L i ≤ lowT L j ∧ highT L i ≤ highT L j := by
  intro i j h
  induction j with
  | zero => obtain rfl : i = 0 := by omega
            exact ⟨Int.le_refl _, Int.le_refl _⟩
  | succ j ih =>
    by_cases c : i = j + 1
    · subst c; exact ⟨Int.le_refl _, Int.le_refl _⟩
    · have := ih (by omega)
      by_cases d : j < L.length
      · have := table_rise hb.b j d
        omega
      · have e : L.take (j + 1) = L.take j := by rw [List.take_of_length_le (by omega), List.take_of_length_le (by omega)]
        unfold lowT highT at *
        rw [e]; exact this
theorem high_lt {L : List (Int × Int)} (hb : TBnd L) (i j : Nat) (h : i < j) (hj : j ≤ L.length) : highT L i < highT L j := by
  have a := table_rise hb.b i (by omega)
  have b := low_all hb (i + 1) j (by omega)
  omega
theorem trI_parts {L : List (Int × Int)} (hb : TBnd L) {p q : Int} (h : p ≤ q) (i : Nat) : trI L p i ≤ trI L q i := by
  refine true_parts (table_bnd hb.b i).2.1 (by omega)

/-- At least, at most: whatever the part. -/
theorem lv_between {L : List (Int × Int)} (hb : TBnd L) (hn : 1 ≤ L.length) (v p : Int) : lvLow L v ≤ lvTrue L v p ∧ lvTrue L v p ≤ lvHigh L v := by
  obtain ⟨x0, x1⟩ := cub_bnd v
  unfold lvLow lvHigh lvTrue
  generalize cubM v = x at *
  have a := firstIx_le L.length (fun i => decide (x < highT L (i + 1)))
  have an := firstIx_not L.length (fun i => decide (x < highT L (i + 1)))
  have c := firstIx_le (L.length + 1) (fun i => decide (x ≤ lowT L i))
  have ch := firstIx_hit (L.length + 1) (fun i => decide (x ≤ lowT L i))
  generalize firstIx L.length (fun i => decide (x < highT L (i + 1))) = f at *
  generalize firstIx (L.length + 1) (fun i => decide (x ≤ lowT L i)) = g at *
  have bt := lvT_bnd (t := trI L p) (n := L.length) (trI_zero L p) x0
  have an' : ∀ j, j < f → highT L (j + 1) ≤ x := fun j hj => by have := an j hj; simpa using this
  constructor
  · by_cases d : trI L p L.length < x
    · rw [bt.2.2.2 d]; omega
    · by_cases e : x = 0
      · have h1 := table_rise hb.b 0 (by omega)
        have h2 : highT L 0 = 0 := by simp [highT]
        have : f = 0 := by
          cases f with
          | zero => rfl
          | succ f => have := an' 0 (by omega); omega
        subst this
        have := bt.1
        omega
      · obtain ⟨i, i1, i2, i3, i4, el⟩ := lvT_mid (trI_zero L p) (show 0 < x by omega) (show x ≤ trI L p L.length by omega)
        have fr := frac_bnd i3 i4
        rw [el]
        by_cases k : f ≤ i
        · omega
        · have h1 := an' i (by omega)
          have h2 := (trI_bnd hb p (i + 1) i2).2
          have h3 := fr.2.2 (by omega)
          have : f ≤ i + 1 := by
            by_cases k2 : f ≤ i + 1
            · exact k2
            · have h4 := an' (i + 1) (by omega)
              have h5 := high_lt hb (i + 1) (i + 1 + 1) (by omega) (by omega)
              omega
          omega
  · by_cases d : g = L.length + 1
    · have := bt.2.1
      omega
    · have h1 := ch (by omega)
      simp only [decide_eq_true_eq] at h1
      have h2 := (trI_bnd hb p g (by omega)).1
      have h3 : trI L p g ≤ trI L p L.length := by
        have := low_all hb g L.length (by omega)
        unfold trI
        exact true_rise this.1 this.2 (by omega) (by omega)
      by_cases e : x = 0
      · have : lvT (trI L p) L.length x = 0 := by unfold lvT; rw [if_neg (by omega), if_pos e]
        rw [this]; omega
      · obtain ⟨i, i1, i2, i3, i4, el⟩ := lvT_mid (trI_zero L p) (show 0 < x by omega) (show x ≤ trI L p L.length by omega)
        have fr := frac_bnd i3 i4
        have h4 : firstIx (L.length + 1) (fun i => decide (x ≤ trI L p i)) ≤ g := firstIx_to (by simp only [decide_eq_true_eq]; omega)
        rw [i1] at h4
        rw [el]
        omega
theorem lvLow_mono (L : List (Int × Int)) {v u : Int} (h : v ≤ u) : lvLow L v ≤ lvLow L u := by
  have hc := cub_mono h
  have := firstIx_mono (n := L.length) (p := fun i => decide (cubM v < highT L (i + 1))) (q := fun i => decide (cubM u < highT L (i + 1))) (fun i _ hi => by simp only [decide_eq_true_eq] at hi ⊢; omega)
  unfold lvLow
  omega
theorem lvHigh_mono (L : List (Int × Int)) {v u : Int} (h : v ≤ u) : lvHigh L v ≤ lvHigh L u := by
  have hc := cub_mono h
  have := firstIx_mono (n := L.length + 1) (p := fun i => decide (cubM v ≤ lowT L i)) (q := fun i => decide (cubM u ≤ lowT L i)) (fun i _ hi => by simp only [decide_eq_true_eq] at hi ⊢; omega)
  unfold lvHigh
  omega
theorem lvTrue_mono (L : List (Int × Int)) (p : Int) {v u : Int} (h : v ≤ u) : lvTrue L v p ≤ lvTrue L u p :=
  lvT_mono (trI_zero L p) (cub_bnd v).1 (cub_mono h)
theorem lvTrue_parts {L : List (Int × Int)} (hb : TBnd L) (v : Int) {p q : Int} (h : p ≤ q) : lvTrue L v q ≤ lvTrue L v p + 100 :=
  lvT_parts (trI_zero L p) (trI_zero L q) (cub_bnd v).1 (fun i => trI_parts hb h i)
theorem lvTrue_bnd (L : List (Int × Int)) (v p : Int) : 0 ≤ lvTrue L v p ∧ lvTrue L v p ≤ 100 * (L.length : Int) + 1 := by
  have := lvT_bnd (t := trI L p) (n := L.length) (trI_zero L p) (cub_bnd v).1
  exact ⟨this.1, this.2.1⟩
theorem lvLow_bnd (L : List (Int × Int)) (v : Int) : 0 ≤ lvLow L v ∧ lvLow L v ≤ 100 * (L.length : Int) := by
  have := firstIx_le L.length (fun i => decide (cubM v < highT L (i + 1)))
  unfold lvLow; omega
theorem lvHigh_bnd (L : List (Int × Int)) (v : Int) : 0 ≤ lvHigh L v ∧ lvHigh L v ≤ 100 * (L.length : Int) + 100 := by
  have := firstIx_le (L.length + 1) (fun i => decide (cubM v ≤ lowT L i))
  unfold lvHigh; omega
theorem lvVol_bnd {L : List (Int × Int)} (hb : TBnd L) (h : Int) (up : Bool) : 0 ≤ lvVol L h up ∧ lvVol L h up ≤ 24000001 := by
  have h1 : ((hgtM L h + 99) / 100).toNat ≤ L.length := by unfold hgtM; omega
  have h2 : (hgtM L h / 100).toNat ≤ L.length := by unfold hgtM; omega
  have a := hb.at _ h1
  have b := hb.at _ h2
  unfold lvVol
  cases up
  · simp only [Bool.false_eq_true, if_false]; omega
  · simp only [if_true]; omega
/-- What a height holds at most reaches it, at least doesn't pass it. -/
theorem vol_reach {L : List (Int × Int)} (hb : TBnd L) (k : Nat) (hk : k ≤ L.length) : 100 * (k : Int) ≤ lvLow L (lvVol L (100 * (k : Int)) true) ∧ lvHigh L (lvVol L (100 * (k : Int)) false) ≤ 100 * (k : Int) := by
  have e1 : ((hgtM L (100 * (k : Int)) + 99) / 100).toNat = k := by unfold hgtM; omega
  have e2 : (hgtM L (100 * (k : Int)) / 100).toNat = k := by unfold hgtM; omega
  obtain ⟨b1, b2, b3⟩ := hb.at k hk
  unfold lvVol
  simp only [if_true, Bool.false_eq_true, if_false, e1, e2]
  constructor
  · have hc : highT L k ≤ cubM ((highT L k + 999999) / 1000000) := by unfold cubM; omega
    have := firstIx_ge (n := L.length) (p := fun i => decide (cubM ((highT L k + 999999) / 1000000) < highT L (i + 1))) hk (fun j hj => by
      have := (low_all hb (j + 1) k (by omega)).2
      simp only [decide_eq_false_iff_not]; omega)
    unfold lvLow
    omega
  · have hc : cubM (lowT L k / 1000000) ≤ lowT L k := by unfold cubM; omega
    have := firstIx_to (n := L.length + 1) (p := fun i => decide (cubM (lowT L k / 1000000) ≤ lowT L i)) (i := k) (by simpa using hc)
    unfold lvHigh
    omega
/-- An empty well, a full one, one that is more than full. -/
theorem lv_ends {L : List (Int × Int)} (hb : TBnd L) (hn : 1 ≤ L.length) (p m : Int) (hm : 0 ≤ m) :
    lvLow L 0 = 0 ∧ lvHigh L 0 = 0 ∧ lvTrue L 0 p = 0 ∧ lvTrue L (-m) p = 0 ∧ lvTrue L (trI L p L.length / 1000000) p ≤ 100 * (L.length : Int) ∧
    lvTrue L ((trI L p L.length + 999999) / 1000000 + 1 + m) p = 100 * (L.length : Int) + 1 ∧ lvLow L ((trI L p L.length + 999999) / 1000000 + 100000000) = 100 * (L.length : Int) := by
  obtain ⟨b1, b2, b3⟩ := hb.at L.length (Nat.le_refl _)
  obtain ⟨t1, t2⟩ := trI_bnd hb p L.length (Nat.le_refl _)
  have c0 : cubM 0 = 0 := by decide
  have cm : cubM (-m) = 0 := by unfold cubM; omega
  have tz : lvT (trI L p) L.length 0 = 0 := by unfold lvT; rw [if_neg (by omega), if_pos rfl]
  refine ⟨?_, ?_, ?_, ?_, ?_, ?_, ?_⟩
  · unfold lvLow
    rw [c0, firstIx_is (i := 0) (by omega) (fun j hj => by omega) (fun _ => by
      have h1 := table_rise hb.b 0 (by omega)
      have h2 : highT L 0 = 0 := by simp [highT]
      simp only [decide_eq_true_eq]; omega)]
    rfl
  · unfold lvHigh
    rw [c0, firstIx_is (i := 0) (by omega) (fun j hj => by omega) (fun _ => by simp [lowT])]
    rfl
  · unfold lvTrue; rw [c0]; exact tz
  · unfold lvTrue; rw [cm]; exact tz
  · exact (lvT_bnd (trI_zero L p) (cub_bnd _).1).2.2.1 (by unfold cubM; omega)
  · exact (lvT_bnd (trI_zero L p) (cub_bnd _).1).2.2.2 (by unfold cubM; omega)
  · have : firstIx L.length (fun i => decide (cubM ((trI L p L.length + 999999) / 1000000 + 100000000) < highT L (i + 1))) = L.length := firstIx_is (Nat.le_refl _) (fun j hj => by
      have h1 := (low_all hb (j + 1) L.length (by omega)).2
      have h2 : highT L L.length ≤ cubM ((trI L p L.length + 999999) / 1000000 + 100000000) := by unfold cubM; omega
      simp only [decide_eq_false_iff_not]; omega) (fun h => by omega)
    unfold lvLow
    rw [this]
end Go.Proofs.Ytkiepmfknbbeaaa
