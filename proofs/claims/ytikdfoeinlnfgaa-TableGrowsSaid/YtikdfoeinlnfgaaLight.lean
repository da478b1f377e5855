/-
  The statements' help: a shape that may be asked.
-/
import Derived.Test.YtikdfoeinlnfgaaChecked
import Derived.Test.YtikdfoeinlnfgaaSec
namespace Go.Proofs.Ytikdfoeinlnfgaa
open Go.RowKit

theorem light_any (v : Value) (l : List Sec) (w : World) (hv : IsSecs w v l) (b : Bool) (hb : decide ((l.length : Int) ≤ 6) = b) :
    Calls Try.prog 10 #[v] w fun e w' => e = .returned (.bool b) ∧ w = w' := by
  obtain ⟨va, vc, rfl⟩ : ∃ va vc, v = .slice va l.length vc := by
    rcases hv with ⟨rfl, rfl⟩ | ⟨b, cb, rfl, _⟩
    · exact ⟨_, _, rfl⟩
    · exact ⟨_, _, rfl⟩
  clear hv
  go_enter Try.func10, Try.ntmps10
  go_wp2
  go_ret
  exact ⟨rfl, rfl⟩
end Go.Proofs.Ytikdfoeinlnfgaa
