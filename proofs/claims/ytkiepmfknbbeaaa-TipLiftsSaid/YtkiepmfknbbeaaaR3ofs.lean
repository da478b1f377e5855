/-
  The document's own tables: of any shape.
-/
import Derived.Test.YtkiepmfknbbeaaaR3of
namespace Go.Proofs.Ytkiepmfknbbeaaa
open Go.RowKit

/-- A table is answered of a shape that may be, none of another one. -/
def OfRes (T : World → Value → List (Int × Int) → Prop) (l : List Sec) (yes no : Value → Value) (w : World) (e : Ending) (w' : World) : Prop :=
  (rightS l = true ∧ ∃ p, e = .returned (yes p) ∧ T w' p (slAll l) ∧ B w w') ∨ (rightS l = false ∧ e = .returned (no (.pointer none)) ∧ B w w')
theorem r3of_held (v : Value) (l : List Sec) (w : World) (hv : IsSecs w v l) :
    Calls Try.prog 37 #[v] w (OfRes (fun w' p L => Held (fun w => RTab w p L) w.heap.size w'.heap.size w') l (fun p => .tuple #[p, .bool true]) (fun p => .tuple #[p, .bool false]) w) := by
  by_cases hr : rightS l = true
  · rcases hv with ⟨rfl, rfl⟩ | ⟨a, cap, rfl, h2, h3, h4⟩
    · exact absurd hr (by decide)
    · have cR : ∀ w', B w w' → Calls Try.prog 19 #[.slice (some a) l.length cap] w' fun e w'' => e = .returned (.bool true) ∧ Q w' w'' := fun w' q => by
        have := r3right_any (.slice (some a) l.length cap) l w' (.inr ⟨a, cap, rfl, h2, h3, fun i s hs => ⟨(h4 i s hs).1, (h4 i s hs).2.keepB q⟩⟩)
        rwa [hr] at this
      exact (r3of_row a cap l w h4 hr cR).mono fun e w' ⟨p, h1, h2, h3⟩ => .inl ⟨hr, p, h1, h2, h3⟩
  · have hr' : rightS l = false := by simpa using hr
    have c := fun w hv => r3right_any v l w hv
    rw [hr'] at c
    have HV := Lib.hid hv
    have HR := Lib.hid hr'
    clear hv hr hr'
    go_enter Try.func37, Try.ntmps37
    go_wp2_with fail
    refine (c _ HV.out).mono ?_
    rintro e W1 ⟨rfl, g1⟩
    go_wp2
    go_ret2
    exact .inr ⟨HR.out, rfl, g1.b⟩
theorem r3of_any (v : Value) (l : List Sec) (w : World) (hv : IsSecs w v l) :
    Calls Try.prog 37 #[v] w (OfRes RTab l (fun p => .tuple #[p, .bool true]) (fun p => .tuple #[p, .bool false]) w) :=
  (r3of_held v l w hv).mono fun e w' h => by
    rcases h with ⟨h1, p, h2, h3, h4⟩ | h
    · exact .inl ⟨h1, p, h2, h3.now, h4⟩
    · exact .inr h

/-- What the laws ask of a table's bounds. -/
structure TBnd (L : List (Int × Int)) : Prop where
  b : ∀ x ∈ L, Bnd x
  n : L.length ≤ 600
theorem tbnd_of {l : List Sec} (hr : rightS l = true) : TBnd (slAll l) := by
  obtain ⟨hl1, hl4, hok⟩ := right_all hr
  have hnum := slAll_len l hok
  have hsum : hsumI l l.length ≤ 60000 := by
    unfold rightS at hr
    simp only [Bool.and_eq_true, decide_eq_true_eq] at hr
    exact hr.2
  exact ⟨slAll_bnd hok, by omega⟩
theorem TBnd.at {L : List (Int × Int)} (h : TBnd L) (k : Nat) (hk : k ≤ L.length) : 0 ≤ lowT L k ∧ lowT L k ≤ highT L k ∧ highT L k ≤ 24000000000000 := by
  obtain ⟨h1, h2, h3⟩ := table_bnd h.b k
  have := h.n
  refine ⟨h1, h2, ?_⟩
  have : (k : Int) ≤ 600 := by omega
  omega
end Go.Proofs.Ytkiepmfknbbeaaa
