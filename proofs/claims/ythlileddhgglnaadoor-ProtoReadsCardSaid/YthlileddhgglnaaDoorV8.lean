/-
  Numbers of 32 bits that come in. No program is named here.
-/
import Derived.Test.YthlileddhgglnaaDoorV1
import Derived.Test.YthlileddhgglnaaDoorV3
import Derived.Test.YthlileddhgglnaaDoorV7
namespace Go.Proofs.YthlileddhgglnaaDoor
open Go.RowKit
def IsU32s (w : World) (v : Value) (l : List Nat) : Prop := ∃ ao cap, v = .slice ao l.length cap ∧ l.length ≤ 9223372036854775807 ∧ ∀ (i x : Nat), l[i]? = some x → x < 4294967296 ∧ ∃ b o, ao = some ⟨b, o, none⟩ ∧ w.cell? ⟨b, o + i, none⟩ = some (.int .u32 (x : Int))
theorem isU32s_nil (w : World) : IsU32s w (.slice none 0 0) [] := ⟨none, 0, rfl, by simp, fun i x h => by simp at h⟩
theorem IsU32s.keep {w w' : World} {v : Value} {l : List Nat} (h : IsU32s w v l) (q : B w w') : IsU32s w' v l := by
  obtain ⟨ao, cap, h1, h2, h3⟩ := h
  exact ⟨ao, cap, h1, h2, fun i x hi => let ⟨k1, b, o, k2, k3⟩ := h3 i x hi; ⟨k1, b, o, k2, q.keep k3⟩⟩
theorem IsU32s.form {w : World} {v : Value} {l : List Nat} (h : IsU32s w v l) : ∃ ao cap, v = .slice ao l.length cap := let ⟨ao, cap, h1, _⟩ := h; ⟨ao, cap, h1⟩
end Go.Proofs.YthlileddhgglnaaDoor
