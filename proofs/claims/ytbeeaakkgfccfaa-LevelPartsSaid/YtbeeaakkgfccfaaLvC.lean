/-
  Layer 5: what the statements ask of the code's levels.
-/
import Derived.Test.YtbeeaakkgfccfaaTabC
import Derived.Test.YtbeeaakkgfccfaaLvm
namespace Go.Proofs.Ytbeeaakkgfccfaa
open Go.RowKit

/-- The code's levels do what the document says, of the code's tables (T). -/
structure LvC (T : World → Value → List (Int × Int) → Prop) : Prop where
  low : ∀ (v : Value) (L : List (Int × Int)) (x : Int) (w : World), TBnd L → I64 x → T w v L → Calls Try.prog 14 #[v, .int .i64 x] w fun e w' => e = .returned (.int .i64 (lvLow L x)) ∧ B w w'
  high : ∀ (v : Value) (L : List (Int × Int)) (x : Int) (w : World), TBnd L → I64 x → T w v L → Calls Try.prog 16 #[v, .int .i64 x] w fun e w' => e = .returned (.int .i64 (lvHigh L x)) ∧ B w w'
  tru : ∀ (v : Value) (L : List (Int × Int)) (x part : Int) (w : World), TBnd L → I64 x → I64 part → T w v L → Calls Try.prog 18 #[v, .int .i64 x, .int .i64 part] w fun e w' => e = .returned (.int .i64 (lvTrue L x part)) ∧ B w w'
/-- How much a height holds does. -/
structure VolC (T : World → Value → List (Int × Int) → Prop) : Prop where
  vol : ∀ (v : Value) (L : List (Int × Int)) (h : Int) (up : Bool) (w : World), TBnd L → I64 h → T w v L → Calls Try.prog 20 #[v, .int .i64 h, .bool up] w fun e w' => e = .returned (.int .i64 (lvVol L h up)) ∧ B w w'
/-- Of no table: nought. -/
structure LvN : Prop where
  low : ∀ (x : Int) (w : World), Calls Try.prog 14 #[.pointer none, .int .i64 x] w fun e w' => e = .returned (.int .i64 0) ∧ B w w'
  high : ∀ (x : Int) (w : World), Calls Try.prog 16 #[.pointer none, .int .i64 x] w fun e w' => e = .returned (.int .i64 0) ∧ B w w'
  tru : ∀ (x part : Int) (w : World), Calls Try.prog 18 #[.pointer none, .int .i64 x, .int .i64 part] w fun e w' => e = .returned (.int .i64 0) ∧ B w w'
  vol : ∀ (h : Int) (up : Bool) (w : World), Calls Try.prog 20 #[.pointer none, .int .i64 h, .bool up] w fun e w' => e = .returned (.int .i64 0) ∧ B w w'

theorem slAll_pos {l : List Sec} (hr : rightS l = true) : 1 ≤ (slAll l).length := by
  obtain ⟨hl1, hl4, hok⟩ := right_all hr
  obtain ⟨s, l', rfl⟩ : ∃ s l', l = s :: l' := by
    cases l with
    | nil => simp at hl1
    | cons s l' => exact ⟨s, l', rfl⟩
  have h0 := hok s List.mem_cons_self
  have h1 := secOk_h s h0
  have h2 := secOk_mod h0
  show 1 ≤ (slOf s ++ slAll l').length
  rw [List.length_append, slOf_len]
  omega
end Go.Proofs.Ytbeeaakkgfccfaa
