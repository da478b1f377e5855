/-
  Layer 4: what the statements ask of the code's tables.
-/
import Derived.Test.YtkiepmfknbbeaaaR3tab
import Derived.Test.YtkiepmfknbbeaaaSeat1
namespace Go.Proofs.Ytkiepmfknbbeaaa
open Go.RowKit

/-- The code's tables do what the document says: whatever a table is in memory ('T'). -/
structure TabC (T : World → Value → List (Int × Int) → Prop) : Prop where
  keep : ∀ {w w' v L}, T w v L → B w w' → T w' v L
  ptr : ∀ {w v L}, T w v L → ∃ a, v = .pointer (some a)
  ofs : ∀ (v : Value) (l : List Sec) (w : World), IsSecs w v l → Calls Try.prog 12 #[v] w (OfRes T l (fun p => .tuple #[p, .int .i64 0]) (fun p => .tuple #[p, .int .i64 23]) w)
  slices : ∀ (v : Value) (L : List (Int × Int)) (w : World), TBnd L → T w v L → Calls Try.prog 27 #[v] w fun e w' => e = .returned (.int .i64 L.length) ∧ B w w'
  low : ∀ (v : Value) (L : List (Int × Int)) (i : Int) (w : World), TBnd L → I64 i → T w v L → Calls Try.prog 51 #[v, .int .i64 i] w fun e w' => e = .returned (.int .i64 (lowT L (nearI L.length i))) ∧ B w w'
  high : ∀ (v : Value) (L : List (Int × Int)) (i : Int) (w : World), TBnd L → I64 i → T w v L → Calls Try.prog 26 #[v, .int .i64 i] w fun e w' => e = .returned (.int .i64 (highT L (nearI L.length i))) ∧ B w w'
  tru : ∀ (v : Value) (L : List (Int × Int)) (i part : Int) (w : World), TBnd L → I64 i → I64 part → T w v L → Calls Try.prog 48 #[v, .int .i64 i, .int .i64 part] w fun e w' =>
    e = .returned (.int .i64 (trueM (lowT L (nearI L.length i)) (highT L (nearI L.length i)) (min (max part 0) 1000))) ∧ B w w'
  tall : ∀ (v : Value) (L : List (Int × Int)) (w : World), TBnd L → T w v L → Calls Try.prog 28 #[v] w fun e w' => e = .returned (.int .i64 (L.length * 100)) ∧ B w w'
/-- The two ways of Of, one by one. -/
theorem TabC.yes {T : World → Value → List (Int × Int) → Prop} (c : TabC T) (v : Value) (l : List Sec) (w : World) (hv : IsSecs w v l) (hr : rightS l = true) :
    Calls Try.prog 12 #[v] w fun e w' => ∃ a, e = .returned (.tuple #[.pointer (some a), .int .i64 0]) ∧ T w' (.pointer (some a)) (slAll l) ∧ B w w' :=
  (c.ofs v l w hv).mono fun e w' h => by
    rcases h with ⟨_, p, rfl, h2, h3⟩ | ⟨h0, _⟩
    · obtain ⟨a, rfl⟩ := c.ptr h2
      exact ⟨a, rfl, h2, h3⟩
    · rw [hr] at h0; cases h0
theorem TabC.no {T : World → Value → List (Int × Int) → Prop} (c : TabC T) (v : Value) (l : List Sec) (w : World) (hv : IsSecs w v l) (hr : rightS l = false) :
    Calls Try.prog 12 #[v] w fun e w' => e = .returned (.tuple #[.pointer none, .int .i64 23]) ∧ B w w' :=
  (c.ofs v l w hv).mono fun e w' h => by
    rcases h with ⟨h0, _⟩ | ⟨_, h1, h2⟩
    · rw [hr] at h0; cases h0
    · exact ⟨h1, h2⟩

end Go.Proofs.Ytkiepmfknbbeaaa
