/-
  Plain mathematics of layer 2: what a span's sum, difference, widening answers. No program is named here.
-/
import Derived.Test.YtehohogpnmokjaaQm
namespace Go.Proofs.Ytehohogpnmokjaa
open Go.RowKit

/-- The error: of a span that isn't right; of an end that 64 bits haven't; none. -/
def spE (r : Bool) (lo hi : Int) : Int := if r = true then (if I64 lo ∧ I64 hi then 0 else 21) else 20
/-- An end as it is told: the number, or nought beside an error. -/
def spV (r : Bool) (lo hi x : Int) : Int := if r = true ∧ I64 lo ∧ I64 hi then x else 0

theorem spE_wrong (lo hi : Int) : spE false lo hi = 20 := rfl
theorem spV_wrong (lo hi x : Int) : spV false lo hi x = 0 := if_neg (by simp)
theorem spE_yes {lo hi : Int} (hl : I64 lo) (hh : I64 hi) : spE true lo hi = 0 := by unfold spE; rw [if_pos rfl, if_pos ⟨hl, hh⟩]
theorem spV_yes {lo hi : Int} (x : Int) (hl : I64 lo) (hh : I64 hi) : spV true lo hi x = x := if_pos ⟨rfl, hl, hh⟩
theorem spE_no {lo hi : Int} (h : ¬ (I64 lo ∧ I64 hi)) : spE true lo hi = 21 := by unfold spE; rw [if_pos rfl, if_neg h]
theorem spV_no {lo hi : Int} (x : Int) (h : ¬ (I64 lo ∧ I64 hi)) : spV true lo hi x = 0 := if_neg (by simp; exact fun a b => h ⟨a, b⟩)

/-- How far it is, without a sign. -/
def dst (a b : Int) : Int := IntKind.u64.wrap (IntKind.u64.wrap b - IntKind.u64.wrap a)
theorem dst_le {l h v : Int} (hl : I64 l) (hh : I64 h) (hv : I64 v) (r : l ≤ h) : decide (dst l v ≤ dst l h) = (decide (l ≤ v) && decide (v ≤ h)) := by
  have e : ∀ x y : Int, I64 x → I64 y → dst x y = (y - x) % 18446744073709551616 := by
    intro x y hx hy
    unfold dst
    simp only [IntKind.wrap, IntKind.signed, IntKind.bits]
    simp
    try omega
  rw [e l v hl hv, e l h hl hh, ← Bool.decide_and]
  congr 1
  unfold I64 at *
  simp only [eq_iff_iff]
  constructor <;> omega
end Go.Proofs.Ytehohogpnmokjaa
