/-
  Plain facts of products made whole, which layer 1's statements ask.
-/
import Derived.Test.YtkiepmfknbbeaaaQmul
namespace Go.Proofs.Ytkiepmfknbbeaaa

theorem mdQ_mul (a d : Int) (hd : 0 < d) (up : Bool) : mdQ (a * d) d up = a := by
  unfold mdQ
  rw [← Int.neg_mul, Int.mul_ediv_cancel _ (by omega), Int.mul_ediv_cancel _ (by omega), Int.neg_neg]
  split <;> rfl

theorem mq_scale (a b : Int) (up : Bool) (hb : b ≠ 0) : mq a b b up = a := by
  unfold mq
  by_cases h : b < 0
  · rw [if_pos h, ← Int.mul_neg, show -b = (b.natAbs : Int) by omega]
    exact mdQ_mul _ _ (by omega) _
  · rw [if_neg h]
    have e : b = (b.natAbs : Int) := by omega
    rw [show a * b = a * (b.natAbs : Int) by rw [← e]]
    exact mdQ_mul _ _ (by omega) _

theorem mq_comm (a b y : Int) (up : Bool) : mq a b y up = mq b a y up := by unfold mq; rw [Int.mul_comm]
theorem mv_scale (a b : Int) (up : Bool) (hb : b ≠ 0) (ha : I64 a) : mv a b b up = a ∧ me a b b up = 0 := by
  rw [mv, me, if_neg hb, if_neg hb, mq_scale a b up hb]
  exact ⟨qv_yes ha, qe_yes ha⟩
theorem mv_scale' (a b : Int) (up : Bool) (hb : b ≠ 0) (ha : I64 a) : mv b a b up = a ∧ me b a b up = 0 := by
  rw [mv, me, if_neg hb, if_neg hb, mq_comm, mq_scale a b up hb]
  exact ⟨qv_yes ha, qe_yes ha⟩
end Go.Proofs.Ytkiepmfknbbeaaa
