/-
  Layer 6: what the statements' help 'known' answers.
-/
import Derived.Test.YtppiocopokbdlaaDoorCuse
import Derived.Test.YtppiocopokbdlaaDoorSeat1
import Derived.Test.YtppiocopokbdlaaDoorPtr
namespace Go.Proofs.YtppiocopokbdlaaDoor
open Go.RowKit

set_option maxRecDepth 100000 in
set_option maxHeartbeats 4000000 in
theorem known6_any (w : World) (hp : Pow10 w) : Calls Tryd.prog 6 #[] w fun e w' => e = .returned (.bool true) ∧ B w w' := by
  have c0 := cnew_any CTab w
  have c1 := fun w => shape_any 0 (by decide) (by decide) w
  have hr : rightS (shapeOf ((0 : Int) % 6).toNat) = true := by decide
  have hh : hsumI (shapeOf ((0 : Int) % 6).toNat) (shapeOf ((0 : Int) % 6).toNat).length = 10000 := by decide
  have hr0 : rightS [] = false := by decide
  generalize shapeOf ((0 : Int) % 6).toNat = L0 at *
  go_enter Tryd.func6, Tryd.ntmps6
  go_wp2_with fail
  refine c0.mono ?_
  rintro e w1 ⟨c, bm, base, rfl, h1, hbm, hs1, b1⟩
  go_wp2_with fail
  refine (c1 _).mono ?_
  rintro e w2 ⟨v2, rfl, hv2, q2⟩
  have h2 := CacheM.keepB h1 q2.b
  have b2 := b1.trans q2.b
  go_wp2_with fail
  refine (ctab_first w w2 v2 b2 hp hbm h2 (by omega) (by decide) hv2 hr (fun e h => by cases h)).mono ?_
  rintro e w3 ⟨x, e0, rfl, hx, hl, _, h3, b3, g3⟩
  clear h1 h2 hv2 q2 b1 b2 g3
  go_wp2_with fail
  refine (c1 _).mono ?_
  rintro e w4 ⟨v4, rfl, hv4, q4⟩
  have h4 := CacheM.keepB h3 q4.b
  have b4 := b3.trans q4.b
  go_wp2_with fail
  refine (ctab_again w w4 v4 b4 hp hbm h4 (by omega) (by simp) hv4 e0 (by simp) hl hx).mono ?_
  rintro e w5 ⟨rfl, h5, b5, _⟩
  clear h3 h4 hv4 q4 b3 b4
  go_wp2_with fail
  refine (ctab_none w w5 (.slice none 0 0) b5 hbm h5 (by omega) (l := []) (.inl ⟨rfl, rfl⟩) hr0).mono ?_
  rintro e w6 ⟨rfl, h6, b6, _⟩
  have cB := cbuilt_any w6 h6
  have cA := casked_any w6 h6
  have cH := ent_tall w6 h6 e0 (by simp) hx
  rw [hl, hh] at cH
  clear h5 b5 c0 c1
  have hpe := ptr_eq x
  go_wp2_with (first | (go_at_call 14; refine cB.mono ?_; rintro e w7 ⟨rfl, rfl⟩) | (go_at_call 12; refine cA.mono ?_; rintro e w7 ⟨rfl, rfl⟩) | (go_at_call 21; refine cH.mono ?_; rintro e w7 ⟨rfl, q7⟩))
  go_ret
  exact ⟨rfl, b6.trans q7⟩
end Go.Proofs.YtppiocopokbdlaaDoor
