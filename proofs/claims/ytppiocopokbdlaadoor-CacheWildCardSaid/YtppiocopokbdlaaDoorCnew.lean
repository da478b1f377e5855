/-
  Layer 6: a new cache; what it was asked, what it made.
-/
import Derived.Test.YtppiocopokbdlaaDoorCachem
import Derived.Test.YtppiocopokbdlaaDoorSync
import Derived.Carry
namespace Go.Proofs.YtppiocopokbdlaaDoor
open Go.RowKit

theorem B.map {a w : World} (h : B a w) (es : Array MapEntry) (k : Nat) : B a (w.alloc (.map es k)) := ⟨h.below.alloc h.below.size _⟩

section
variable {T : World → Value → List (Int × Int) → Prop} {c bm base n : Nat} {E : List Ent}

theorem new_at (T : World → Value → List (Int × Int) → Prop) (w : World) : CacheC T ((w.alloc (.map #[] 0)).alloc (.cells #[.int .i64 0, .int .i64 0, .int .i32 0, .int .u32 0, .map (some w.heap.size)] 62)) (w.heap.size + 1) w.heap.size (w.heap.size + 2) 0 [] := by
  have o := obj_new (w.alloc (.map #[] 0)) (.cells #[.int .i64 0, .int .i64 0, .int .i32 0, .int .u32 0, .map (some w.heap.size)] 62)
  have e : (w.alloc (.map #[] 0)).heap.size = w.heap.size + 1 := by simp
  rw [e] at o
  refine ⟨o, ⟨_, (World.ownsMap_made w Tryd.prog 9 ptrElem).alloc _, fun l => rfl⟩, by omega, by omega, by simp, fun _ h => (by cases h), List.Pairwise.nil⟩

set_option maxRecDepth 100000 in
set_option maxHeartbeats 1600000 in
theorem cnew_any (T : World → Value → List (Int × Int) → Prop) (w : World) : Calls Tryd.prog 8 #[] w fun e w' => ∃ c bm base, e = .returned (.pointer (some ⟨c, 0, none⟩)) ∧ CacheC T w' c bm base 0 [] ∧ w.heap.size ≤ bm ∧ w'.heap.size = base ∧ B w w' := by
  have hmm := @run_makeMap Tryd.prog
  have hC := new_at T w
  have hB : B w ((w.alloc (.map #[] 0)).alloc (.cells #[.int .i64 0, .int .i64 0, .int .i32 0, .int .u32 0, .map (some w.heap.size)] 62)) := ((B.refl w).map _ _).alloc _ _
  have hs : ((w.alloc (.map #[] 0)).alloc (.cells #[.int .i64 0, .int .i64 0, .int .i32 0, .int .u32 0, .map (some w.heap.size)] 62)).heap.size = w.heap.size + 2 := by simp
  have HC := Lib.hid hC
  have HB := Lib.hid hB
  have HS := Lib.hid hs
  clear hC hB hs
  go_enter Tryd.func8, Tryd.ntmps8
  go_wp2
  go_ret
  exact ⟨_, _, _, rfl, HC.out, Nat.le_refl _, HS.out, HB.out⟩

set_option maxRecDepth 100000 in
theorem casked_any (w : World) (hC : CacheC T w c bm base n E) : Calls Tryd.prog 12 #[.pointer (some ⟨c, 0, none⟩)] w fun e w' => e = .returned (.int .i64 n) ∧ w' = w := by
  have cL := load64_any c 0 n w (by rw [obj_cell hC.obj]; rfl)
  clear hC
  go_enter Tryd.func12, Tryd.ntmps12
  go_wp2_with (go_at_call 31; refine cL.mono ?_; rintro e w' ⟨rfl, rfl⟩)
  go_ret
  exact ⟨rfl, rfl⟩
set_option maxRecDepth 100000 in
theorem cbuilt_any (w : World) (hC : CacheC T w c bm base n E) : Calls Tryd.prog 14 #[.pointer (some ⟨c, 0, none⟩)] w fun e w' => e = .returned (.int .i64 E.length) ∧ w' = w := by
  have cL := load64_any c 1 E.length w (by rw [obj_cell hC.obj]; rfl)
  clear hC
  go_enter Tryd.func14, Tryd.ntmps14
  go_wp2_with (go_at_call 31; refine cL.mono ?_; rintro e w' ⟨rfl, rfl⟩)
  go_ret
  exact ⟨rfl, rfl⟩
end
end Go.Proofs.YtppiocopokbdlaaDoor
