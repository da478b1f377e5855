/-
  Plain mathematics of a straight side: from its lower end to its upper one, made whole. No program is named here.
-/
import Derived.Test.YtkiepmfknbbeaaaQlaw
namespace Go.Proofs.Ytkiepmfknbbeaaa
open Go.RowKit

theorem ediv_between {n h lo hi : Int} (hh : 0 < h) (h1 : lo * h ≤ n) (h2 : n ≤ hi * h) : lo ≤ n / h ∧ n / h ≤ hi := by
  constructor
  · exact (Int.le_ediv_iff_mul_le hh).2 h1
  · have : n / h < hi + 1 := (Int.ediv_lt_iff_lt_mul hh).2 (by rw [Int.add_mul]; omega)
    omega
theorem mdQ_between {n h lo hi : Int} (hh : 0 < h) (h1 : lo * h ≤ n) (h2 : n ≤ hi * h) (up : Bool) : lo ≤ mdQ n h up ∧ mdQ n h up ≤ hi := by
  unfold mdQ
  cases up
  · exact ediv_between hh h1 h2
  · have := ediv_between (n := -n) (lo := -hi) (hi := -lo) hh (by rw [Int.neg_mul]; omega) (by rw [Int.neg_mul]; omega)
    simp only [if_true]
    omega
theorem mdQ_ways {n h : Int} (hh : 0 < h) : mdQ n h false ≤ mdQ n h true ∧ mdQ n h true ≤ mdQ n h false + 1 := by
  have h1 := Int.ediv_mul_le n (show h ≠ 0 by omega)
  have h2 := Int.lt_ediv_add_one_mul_self n hh
  have h3 := mdQ_between (n := n) (h := h) (lo := n / h) (hi := n / h + 1) hh h1 (by omega) true
  have e : mdQ n h false = n / h := rfl
  rw [e]
  exact h3
theorem mq_pos (d at_ h : Int) (hh : 0 < h) (up : Bool) : mq d at_ h up = mdQ (d * at_) h up := by
  unfold mq
  rw [if_neg (by omega), show (h.natAbs : Int) = h by omega]

/-- A side at a place, of its ends. -/
def sideM (x0 x1 at_ h : Int) (up : Bool) : Int := x0 + mv (x1 - x0) at_ h up
theorem side_mq {x0 x1 at_ h : Int} (h0 : 0 ≤ at_) (h1 : at_ ≤ h) (hh : 1 ≤ h) (up : Bool) :
    min 0 (x1 - x0) ≤ mq (x1 - x0) at_ h up ∧ mq (x1 - x0) at_ h up ≤ max 0 (x1 - x0) := by
  rw [mq_pos _ _ _ (by omega)]
  by_cases hd : 0 ≤ x1 - x0
  · have a1 : 0 ≤ (x1 - x0) * at_ := Int.mul_nonneg hd h0
    have a2 : (x1 - x0) * at_ ≤ (x1 - x0) * h := Int.mul_le_mul_of_nonneg_left h1 hd
    have := mdQ_between (n := (x1 - x0) * at_) (h := h) (lo := 0) (hi := x1 - x0) (by omega) (by omega) a2 up
    omega
  · have e : (x1 - x0) * at_ = -((x0 - x1) * at_) := by rw [← Int.neg_mul]; congr 1; omega
    have a1 : 0 ≤ (x0 - x1) * at_ := Int.mul_nonneg (by omega) h0
    have a2 : (x0 - x1) * at_ ≤ (x0 - x1) * h := Int.mul_le_mul_of_nonneg_left h1 (by omega)
    have e2 : (x1 - x0) * h = -((x0 - x1) * h) := by rw [← Int.neg_mul]; congr 1; omega
    have := mdQ_between (n := (x1 - x0) * at_) (h := h) (lo := x1 - x0) (hi := 0) (by omega) (by omega) (by omega) up
    omega
/-- There is no error, and it lies between the ends. -/
theorem side_fits {x0 x1 at_ h : Int} (a0 : 0 ≤ x0) (b0 : x0 ≤ 20000) (a1 : 0 ≤ x1) (b1 : x1 ≤ 20000) (h0 : 0 ≤ at_) (h1 : at_ ≤ h) (hh : 1 ≤ h) (up : Bool) :
    me (x1 - x0) at_ h up = 0 ∧ mv (x1 - x0) at_ h up = mq (x1 - x0) at_ h up ∧ min x0 x1 ≤ sideM x0 x1 at_ h up ∧ sideM x0 x1 at_ h up ≤ max x0 x1 := by
  have hq := side_mq (x0 := x0) (x1 := x1) h0 h1 hh up
  have hI : I64 (mq (x1 - x0) at_ h up) := by unfold I64; omega
  have e1 : mv (x1 - x0) at_ h up = mq (x1 - x0) at_ h up := by rw [mv, if_neg (by omega), qv_yes hI]
  refine ⟨by rw [me, if_neg (by omega), qe_yes hI], e1, ?_, ?_⟩
  all_goals
    unfold sideM
    rw [e1]
    omega
theorem side_ways {x0 x1 at_ h : Int} (a0 : 0 ≤ x0) (b0 : x0 ≤ 20000) (a1 : 0 ≤ x1) (b1 : x1 ≤ 20000) (h0 : 0 ≤ at_) (h1 : at_ ≤ h) (hh : 1 ≤ h) :
    sideM x0 x1 at_ h false ≤ sideM x0 x1 at_ h true ∧ sideM x0 x1 at_ h true ≤ sideM x0 x1 at_ h false + 1 := by
  unfold sideM
  rw [(side_fits a0 b0 a1 b1 h0 h1 hh false).2.1, (side_fits a0 b0 a1 b1 h0 h1 hh true).2.1, mq_pos _ _ _ (by omega), mq_pos _ _ _ (by omega)]
  have := mdQ_ways (n := (x1 - x0) * at_) (h := h) (by omega)
  omega
theorem side_low {x0 x1 h : Int} (hh : 1 ≤ h) (up : Bool) : sideM x0 x1 0 h up = x0 := by
  unfold sideM
  have : mq (x1 - x0) 0 h up = 0 := by
    rw [mq_pos _ _ _ (by omega), Int.mul_zero]
    cases up <;> simp [mdQ]
  rw [mv, if_neg (by omega), this]
  simp [qv, I64]
theorem side_high {x0 x1 h : Int} (a0 : 0 ≤ x0) (b0 : x0 ≤ 20000) (a1 : 0 ≤ x1) (b1 : x1 ≤ 20000) (hh : 1 ≤ h) (up : Bool) : sideM x0 x1 h h up = x1 := by
  unfold sideM
  rw [(mv_scale (x1 - x0) h up (by omega) (by unfold I64; omega)).1]
  omega
end Go.Proofs.Ytkiepmfknbbeaaa
