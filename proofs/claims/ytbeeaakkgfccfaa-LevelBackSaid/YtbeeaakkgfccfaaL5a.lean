/-
  Layer 5: the helps of the statements: both tables of a shape; a box that is known.
-/
import Derived.Test.YtbeeaakkgfccfaaLvC
import Derived.Test.YtbeeaakkgfccfaaR5
import Derived.Test.YtbeeaakkgfccfaaSecq
import Derived.KernelRfl
namespace Go.Proofs.Ytbeeaakkgfccfaa
open Go.RowKit

theorem both_any {T : World → Value → List (Int × Int) → Prop} (c : TabC T) (v : Value) (l : List Sec) (w : World) (hv : IsSecs w v l) (hr : rightS l = true) :
    Calls Try.prog 12 #[v] w fun e w' => ∃ a p, e = .returned (.tuple #[.pointer (some a), p, .bool true]) ∧ T w' (.pointer (some a)) (slAll l) ∧ RTab w' p (slAll l) ∧ B w w' := by
  have c1 := c.yes v l w hv hr
  have c2 := fun w hv => r3of_any v l w hv
  have HV := Lib.hid hv
  have HR := Lib.hid hr
  obtain ⟨oo, nn, cc, rfl⟩ := hv.form
  clear hv hr
  go_enter Try.func12, Try.ntmps12
  go_wp2_with fail
  refine c1.mono ?_
  rintro e w1 ⟨a, rfl, ht, q⟩
  go_wp2_with fail
  refine (c2 _ (HV.out.keepB q)).mono ?_
  rintro e w2 h
  rcases h with ⟨_, p, rfl, hw, q2⟩ | ⟨h0, _, _⟩
  · have ht2 := c.keep ht q2
    replace q := q.trans q2
    go_wp2
    go_ret3
    exact ⟨_, _, rfl, ht2, hw, q⟩
  · rw [HR.out] at h0; cases h0

set_option maxHeartbeats 1000000 in
theorem known5_any {T : World → Value → List (Int × Int) → Prop} (c : TabC T) (lv : LvC T) (lw : VolC T) (w : World) : Calls Try.prog 9 #[] w fun e w' => e = .returned (.bool true) ∧ B w w' := by
  have hr : rightS [⟨false, 1000, 1000, 1000, 1000, 1000⟩] = true := by decide
  have c1 := fun v w h => both_any c v [⟨false, 1000, 1000, 1000, 1000, 1000⟩] w h hr
  have hb := tbnd_of hr
  have hs : slAll [⟨false, 1000, 1000, 1000, 1000, 1000⟩] = List.replicate 10 (100000000, 100000000) := by decide
  rw [hs] at c1 hb
  clear hs hr
  have c2 := fun v w h => lv.low v (List.replicate 10 (100000000, 100000000)) 100 w hb (by decide) h
  have c3 := fun v w h => lv.high v (List.replicate 10 (100000000, 100000000)) 101 w hb (by decide) h
  have c4 := fun v w h => lv.tru v (List.replicate 10 (100000000, 100000000)) 150 0 w hb (by decide) (by decide) h
  have c5 := fun v w h => lw.vol v (List.replicate 10 (100000000, 100000000)) 250 true w hb (by decide) h
  have c6 := fun v w h => lv.tru v (List.replicate 10 (100000000, 100000000)) 0 7 w hb (by decide) (by decide) h
  have c7 := fun v w h => lv.high v (List.replicate 10 (100000000, 100000000)) 5000 w hb (by decide) h
  rw [show lvLow (List.replicate 10 (100000000, 100000000)) 100 = 100 by decide] at c2
  rw [show lvHigh (List.replicate 10 (100000000, 100000000)) 101 = 200 by decide] at c3
  rw [show lvTrue (List.replicate 10 (100000000, 100000000)) 150 0 = 150 by decide] at c4
  rw [show lvVol (List.replicate 10 (100000000, 100000000)) 250 true = 300 by decide] at c5
  rw [show lvTrue (List.replicate 10 (100000000, 100000000)) 0 7 = 0 by decide] at c6
  rw [show lvHigh (List.replicate 10 (100000000, 100000000)) 5000 = 1100 by decide] at c7
  generalize List.replicate 10 ((100000000 : Int), (100000000 : Int)) = L at *
  clear lv lw hb
  go_enter Try.func9, Try.ntmps9
  go_wp2_with fail
  refine (c1 _ _ (isSecs_new (l := [⟨false, 1000, 1000, 1000, 1000, 1000⟩]) rfl rfl (fitsB_I (by decide)) (by decide) (by decide))).mono ?_
  rintro e w1 ⟨a, p, rfl, ht, hw, h⟩
  have g := ((B.refl w).alloc _ _).trans h
  clear h hw
  go_wp2_with fail
  refine (c2 _ _ ht).mono ?_
  rintro e wS ⟨rfl, q⟩
  replace g := g.trans q
  replace ht := c.keep ht q
  clear q
  go_wp2_with fail
  refine (c3 _ _ ht).mono ?_
  rintro e wS ⟨rfl, q⟩
  replace g := g.trans q
  replace ht := c.keep ht q
  clear q
  go_wp2_with fail
  refine (c4 _ _ ht).mono ?_
  rintro e wS ⟨rfl, q⟩
  replace g := g.trans q
  replace ht := c.keep ht q
  clear q
  go_wp2_with fail
  refine (c5 _ _ ht).mono ?_
  rintro e wS ⟨rfl, q⟩
  replace g := g.trans q
  replace ht := c.keep ht q
  clear q
  go_wp2_with fail
  refine (c6 _ _ ht).mono ?_
  rintro e wS ⟨rfl, q⟩
  replace g := g.trans q
  replace ht := c.keep ht q
  clear q
  go_wp2_with fail
  refine (c7 _ _ ht).mono ?_
  rintro e wS ⟨rfl, q⟩
  replace g := g.trans q
  replace ht := c.keep ht q
  clear q
  go_wp2
  go_ret
  exact ⟨rfl, g⟩
end Go.Proofs.Ytbeeaakkgfccfaa
