/-
  Layer 1: 'near' answers a number of 64 bits.
-/
import Derived.Test.YtfopgblhkophpaaW
import Derived.Test.YtfopgblhkophpaaQm
import Derived.Test.YtfopgblhkophpaaChecked
namespace Go.Proofs.Ytfopgblhkophpaa
open Go.RowKit

theorem near_pick (v : Int) (hv : I64 v) : ∀ m : Nat, m < 12 → ∃ x, I64 x ∧
    [Value.int .i64 v, Value.int .i64 0, Value.int .i64 1, Value.int .i64 (-1), Value.int .i64 9223372036854775807, Value.int .i64 (-9223372036854775808),
      Value.int .i64 (v / 4294967296), Value.int .i64 (v / 281474976710656), Value.int .i64 2, Value.int .i64 3037000499, Value.int .i64 3037000500, Value.int .i64 (-3037000500)][m]? = some (.int .i64 x) := by
  have h1 : I64 (v / 4294967296) := by unfold I64 at *; omega
  have h2 : I64 (v / 281474976710656) := by unfold I64 at *; omega
  intro m hm
  match m, hm with
  | 0, _ => exact ⟨_, hv, rfl⟩
  | 1, _ => exact ⟨_, by decide, rfl⟩
  | 2, _ => exact ⟨_, by decide, rfl⟩
  | 3, _ => exact ⟨_, by decide, rfl⟩
  | 4, _ => exact ⟨_, by decide, rfl⟩
  | 5, _ => exact ⟨_, by decide, rfl⟩
  | 6, _ => exact ⟨_, h1, rfl⟩
  | 7, _ => exact ⟨_, h2, rfl⟩
  | 8, _ => exact ⟨_, by decide, rfl⟩
  | 9, _ => exact ⟨_, by decide, rfl⟩
  | 10, _ => exact ⟨_, by decide, rfl⟩
  | 11, _ => exact ⟨_, by decide, rfl⟩

/-- A number that is answered, of 64 bits; the world has new blocks at most. -/
def Near (w : World) (e : Ending) (w' : World) : Prop := ∃ x, I64 x ∧ e = .returned (.int .i64 x) ∧ Q w w'

theorem near_any (v k : Int) (hv : I64 v) (hk : 0 ≤ k ∧ k ≤ 255) (w : World) :
    Calls Try.prog 12 #[.int .i64 v, .int .u8 k] w (Near w) := by
  obtain ⟨k1, k2⟩ := hk
  obtain ⟨x, hx, hp⟩ := near_pick v hv (k % 12).toNat (by omega)
  unfold I64 at hv
  obtain ⟨v1, v2⟩ := hv
  go_enter Try.func12, Try.ntmps12
  go_wp2
  go_ret
  exact ⟨x, hx, rfl, (Q.refl w).alloc _ _⟩
end Go.Proofs.Ytfopgblhkophpaa
