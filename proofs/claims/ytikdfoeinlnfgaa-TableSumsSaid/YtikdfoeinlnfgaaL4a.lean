/-
  Layer 4: what the statements ask of the code's tables, and what their help 'known' answers.
-/
import Derived.Test.YtikdfoeinlnfgaaR3tab
import Derived.Test.YtikdfoeinlnfgaaSeat1
namespace Go.Proofs.Ytikdfoeinlnfgaa
open Go.RowKit

/-- The code's tables do what the document says: whatever a table is in memory ('T'). -/
structure TabC (T : World → Value → List (Int × Int) → Prop) : Prop where
  keep : ∀ {w w' v L}, T w v L → B w w' → T w' v L
  ptr : ∀ {w v L}, T w v L → ∃ a, v = .pointer (some a)
  ofs : ∀ (v : Value) (l : List Sec) (w : World), IsSecs w v l → Calls Try.prog 13 #[v] w (OfRes T l (fun p => .tuple #[p, .int .i64 0]) (fun p => .tuple #[p, .int .i64 23]) w)
  slices : ∀ (v : Value) (L : List (Int × Int)) (w : World), TBnd L → T w v L → Calls Try.prog 15 #[v] w fun e w' => e = .returned (.int .i64 L.length) ∧ B w w'
  low : ∀ (v : Value) (L : List (Int × Int)) (i : Int) (w : World), TBnd L → I64 i → T w v L → Calls Try.prog 19 #[v, .int .i64 i] w fun e w' => e = .returned (.int .i64 (lowT L (nearI L.length i))) ∧ B w w'
  high : ∀ (v : Value) (L : List (Int × Int)) (i : Int) (w : World), TBnd L → I64 i → T w v L → Calls Try.prog 21 #[v, .int .i64 i] w fun e w' => e = .returned (.int .i64 (highT L (nearI L.length i))) ∧ B w w'
  tru : ∀ (v : Value) (L : List (Int × Int)) (i part : Int) (w : World), TBnd L → I64 i → I64 part → T w v L → Calls Try.prog 23 #[v, .int .i64 i, .int .i64 part] w fun e w' =>
    e = .returned (.int .i64 (trueM (lowT L (nearI L.length i)) (highT L (nearI L.length i)) (min (max part 0) 1000))) ∧ B w w'
  tall : ∀ (v : Value) (L : List (Int × Int)) (w : World), TBnd L → T w v L → Calls Try.prog 17 #[v] w fun e w' => e = .returned (.int .i64 (L.length * 100)) ∧ B w w'
/-- The code's areas do, of any section. -/
def AreaC : Prop := ∀ (r : Bool) (h a0 b0 a1 b1 at_ : Int) (up : Bool) (w : World), Sec.I ⟨r, h, a0, b0, a1, b1⟩ → I64 at_ →
  Calls Try.prog 25 #[.agg #[.bool r, .int .i64 h, .int .i64 a0, .int .i64 b0, .int .i64 a1, .int .i64 b1], .int .i64 at_, .bool up] w fun e w' => e = .returned (.int .i64 (areaOf ⟨r, h, a0, b0, a1, b1⟩ at_ up)) ∧ B w w'
/-- The two ways of Of, one by one. -/
theorem TabC.yes {T : World → Value → List (Int × Int) → Prop} (c : TabC T) (v : Value) (l : List Sec) (w : World) (hv : IsSecs w v l) (hr : rightS l = true) :
    Calls Try.prog 13 #[v] w fun e w' => ∃ a, e = .returned (.tuple #[.pointer (some a), .int .i64 0]) ∧ T w' (.pointer (some a)) (slAll l) ∧ B w w' :=
  (c.ofs v l w hv).mono fun e w' h => by
    rcases h with ⟨_, p, rfl, h2, h3⟩ | ⟨h0, _⟩
    · obtain ⟨a, rfl⟩ := c.ptr h2
      exact ⟨a, rfl, h2, h3⟩
    · rw [hr] at h0; cases h0
theorem TabC.no {T : World → Value → List (Int × Int) → Prop} (c : TabC T) (v : Value) (l : List Sec) (w : World) (hv : IsSecs w v l) (hr : rightS l = false) :
    Calls Try.prog 13 #[v] w fun e w' => e = .returned (.tuple #[.pointer none, .int .i64 23]) ∧ B w w' :=
  (c.ofs v l w hv).mono fun e w' h => by
    rcases h with ⟨h0, _⟩ | ⟨_, h1, h2⟩
    · rw [hr] at h0; cases h0
    · exact ⟨h1, h2⟩

set_option maxHeartbeats 1000000 in
theorem known4_any {T : World → Value → List (Int × Int) → Prop} (c : TabC T) (w : World) : Calls Try.prog 9 #[] w fun e w' => e = .returned (.bool true) ∧ B w w' := by
  have hr : rightS [⟨false, 100, 10, 10, 10, 10⟩] = true := by decide
  have c1 := fun v w h => c.yes v [⟨false, 100, 10, 10, 10, 10⟩] w h hr
  have hb := tbnd_of hr
  have hn : rightS [] = false := by decide
  have c2 := fun w => c.no (.slice none 0 0) [] w (.inl ⟨rfl, rfl⟩) hn
  have hs : slAll [⟨false, 100, 10, 10, 10, 10⟩] = [(10000, 10000)] := by decide
  rw [hs] at c1 hb
  clear hs hn hr
  have c3 := fun v w h => c.slices v [(10000, 10000)] w hb h
  have c4 := fun v w h => c.low v [(10000, 10000)] 1 w hb (by decide) h
  have c5 := fun v w h => c.high v [(10000, 10000)] 9 w hb (by decide) h
  have c6 := fun v w h => c.tall v [(10000, 10000)] w hb h
  rw [show lowT [(10000, 10000)] (nearI [((10000 : Int), (10000 : Int))].length 1) = 10000 by decide] at c4
  rw [show highT [(10000, 10000)] (nearI [((10000 : Int), (10000 : Int))].length 9) = 10000 by decide] at c5
  have hk := fun (w w' : World) v L h q => c.keep (w := w) (w' := w') (v := v) (L := L) h q
  clear c hb
  go_enter Try.func9, Try.ntmps9
  go_wp2_with fail
  refine (c1 _ _ (isSecs_new (l := [⟨false, 100, 10, 10, 10, 10⟩]) rfl rfl (fitsB_I (by decide)) (by decide) (by decide))).mono ?_
  rintro e w1 ⟨a, rfl, ht, h⟩
  have g := ((B.refl w).alloc _ _).trans h
  clear h
  go_wp2_with fail
  refine (c2 _).mono ?_
  rintro e w2 ⟨rfl, h⟩
  replace g := g.trans h
  replace ht := hk _ _ _ _ ht h
  clear h
  go_wp2_with fail
  refine (c3 _ _ ht).mono ?_
  rintro e w3 ⟨rfl, h⟩
  replace g := g.trans h
  replace ht := hk _ _ _ _ ht h
  clear h
  go_wp2_with fail
  refine (c4 _ _ ht).mono ?_
  rintro e w4 ⟨rfl, h⟩
  replace g := g.trans h
  replace ht := hk _ _ _ _ ht h
  clear h
  go_wp2_with fail
  refine (c5 _ _ ht).mono ?_
  rintro e w5 ⟨rfl, h⟩
  replace g := g.trans h
  replace ht := hk _ _ _ _ ht h
  clear h
  go_wp2_with fail
  refine (c6 _ _ ht).mono ?_
  rintro e w6 ⟨rfl, h⟩
  replace g := g.trans h
  clear h
  go_wp2
  go_ret
  exact ⟨rfl, g⟩
end Go.Proofs.Ytikdfoeinlnfgaa
