/-
  What a literal's fit says. No program is named here.
-/
import Derived.Test.YtbeeaakkgfccfaaSecq
namespace Go.Proofs.Ytbeeaakkgfccfaa
open Go.RowKit

theorem u32_wf {k : Int} (w : (Lit.int .u32 k).wf = true) : 0 ≤ k ∧ k ≤ 4294967295 := by
  simp [Lit.wf, IntKind.min, IntKind.max, IntKind.signed, IntKind.bits] at w
  omega
theorem wrapU32 {x : Int} (h0 : 0 ≤ x) (h1 : x ≤ 4294967295) : IntKind.u32.wrap x = x := by
  rw [IntKind.wrap_u32]; omega
theorem wrapU16 {x : Int} (h0 : 0 ≤ x) (h1 : x ≤ 65535) : IntKind.u16.wrap x = x := by
  rw [IntKind.wrap_u16]; omega
end Go.Proofs.Ytbeeaakkgfccfaa
