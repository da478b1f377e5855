/-
  Plain mathematics of layer 1: what fits 64 bits; signs of bits. No program is named here.
-/
import Derived.WalkKit
import Derived.Laws.Bits64b
namespace Go.Proofs.Ytkiepmfknbbeaaa
open Go.RowKit

/-- An int64 holds it. -/
def I64 (v : Int) : Prop := -9223372036854775808 ≤ v ∧ v ≤ 9223372036854775807
instance (v : Int) : Decidable (I64 v) := inferInstanceAs (Decidable (_ ∧ _))
/-- What is answered beside the error: the number, or nought. -/
def qv (v : Int) : Int := if I64 v then v else 0
/-- The error: none, or ErrOver. -/
def qe (v : Int) : Int := if I64 v then 0 else 21

theorem qv_yes {v : Int} (h : I64 v) : qv v = v := if_pos h
theorem qe_yes {v : Int} (h : I64 v) : qe v = 0 := if_pos h
theorem qv_no {v : Int} (h : ¬ I64 v) : qv v = 0 := if_neg h
theorem qe_no {v : Int} (h : ¬ I64 v) : qe v = 21 := if_neg h
theorem qv_range (v : Int) : I64 (qv v) := by
  by_cases h : I64 v
  · rw [qv_yes h]; exact h
  · rw [qv_no h]; unfold I64; omega
theorem i64_wf {n : Int} (w : (Lit.int .i64 n).wf = true) : I64 n := by
  simp [Lit.wf, IntKind.min, IntKind.max, IntKind.signed, IntKind.bits] at w
  unfold I64; omega
theorem wf_i64' {n : Int} (w : I64 n) : (Lit.int .i64 n).wf = true := WalkArith.wf_i64 w

theorem wrap_bv (v : BitVec 64) : IntKind.i64.wrap (v.toNat : Int) = v.toInt := by
  rw [IntKind.wrap_i64, BitVec.toInt_eq_toNat_cond]
  have := v.isLt
  split <;> omega
theorem xor_i64 (x y : Int) : bits .xor .i64 x y = (BitVec.ofInt 64 x ^^^ BitVec.ofInt 64 y).toInt := wrap_bv _
theorem and_i64 (x y : Int) : bits .and .i64 x y = (BitVec.ofInt 64 x &&& BitVec.ofInt 64 y).toInt := wrap_bv _
theorem or_i64 (x y : Int) : bits .or .i64 x y = (BitVec.ofInt 64 x ||| BitVec.ofInt 64 y).toInt := wrap_bv _
theorem neg_i64 (a : Int) (h : I64 a) : (BitVec.ofInt 64 a).msb = decide (a < 0) := by
  unfold I64 at h
  rw [BitVec.msb_eq_toInt, BitVec.toInt_ofInt]
  congr 1
  rw [Int.bmod_eq_of_le (by omega) (by omega)]
theorem lt_i64 (v : BitVec 64) : v.toInt < 0 ↔ v.msb = true := by
  rw [BitVec.msb_eq_toInt]; simp
theorem wrap64_I64 (a : Int) : I64 (wrap64 a) := by unfold I64 wrap64; omega
theorem sign_xx (a b s t : Int) (ha : I64 a) (hb : I64 b) (hs : I64 s) (ht : I64 t) :
    bits .and .i64 (bits .xor .i64 a s) (bits .xor .i64 b t) < 0 ↔ ((a < 0 ↔ ¬ s < 0) ∧ (b < 0 ↔ ¬ t < 0)) := by
  rw [and_i64, xor_i64, xor_i64, lt_i64, BitVec.ofInt_toInt, BitVec.ofInt_toInt, BitVec.msb_and, BitVec.msb_xor, BitVec.msb_xor, neg_i64 a ha, neg_i64 b hb, neg_i64 s hs, neg_i64 t ht]
  by_cases h1 : a < 0 <;> by_cases h2 : b < 0 <;> by_cases h3 : s < 0 <;> by_cases h4 : t < 0 <;> simp [h1, h2, h3, h4]
theorem add_over (a b : Int) (ha : I64 a) (hb : I64 b) :
    (bits .and .i64 (bits .xor .i64 a (wrap64 (a + b))) (bits .xor .i64 b (wrap64 (a + b))) < 0 ↔ ¬ I64 (a + b)) ∧ (I64 (a + b) → wrap64 (a + b) = a + b) := by
  rw [sign_xx a b _ _ ha hb (wrap64_I64 _) (wrap64_I64 _)]
  unfold I64 at *
  unfold wrap64
  constructor <;> omega
theorem sub_over (a b : Int) (ha : I64 a) (hb : I64 b) :
    (bits .and .i64 (bits .xor .i64 a b) (bits .xor .i64 a (wrap64 (a - b))) < 0 ↔ ¬ I64 (a - b)) ∧ (I64 (a - b) → wrap64 (a - b) = a - b) := by
  rw [sign_xx a a b _ ha ha hb (wrap64_I64 _)]
  unfold I64 at *
  unfold wrap64
  constructor <;> omega
end Go.Proofs.Ytkiepmfknbbeaaa
