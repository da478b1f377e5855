/-
  Layer 6: what is done once for an entry: its table is made, and counted.
-/
import Derived.Test.YtppiocopokbdlaaDoorCachem
import Derived.Test.YtppiocopokbdlaaDoorSync
import Derived.Test.YtppiocopokbdlaaDoorR3ofs
import Derived.Deep.RegionWith
namespace Go.Proofs.YtppiocopokbdlaaDoor
open Go.RowKit

/-- The code's Of makes tables in new blocks alone. -/
def OfN (T : World → Value → List (Int × Int) → Prop) : Prop :=
  ∀ (v : Value) (l : List Sec) (w : World), IsSecs w v l → Calls Tryd.prog 28 #[v] w (OfRes (fun w' p L => TabN T w.heap.size w'.heap.size w' p L) l (fun p => .tuple #[p, .int .i64 0]) (fun p => .tuple #[p, .int .i64 23]) w)

section
variable {T : World → Value → List (Int × Int) → Prop} {c bm base n : Nat} {E : List Ent} {F : List Sec → DataW Unit}

/-- Behind what is done once. -/
structure Made (T : World → Value → List (Int × Int) → Prop) (c bm base n b : Nat) (l : List Sec) (F : List Sec → DataW Unit) (E : List Ent) (w : World) (p : Value) (lo hi : Nat) (w' : World) : Prop where
  obj : w'.heap[b]? = some (.cells #[.int .u32 0, .int .i32 1, .int .u32 0, p] 72 (0, 0))
  tab : TabN T lo hi w' p (slAll l)
  lo : w.heap.size ≤ lo
  cache : CacheM T w' c bm base n (E.length + 1) (E.length + 1) F E
  g : G (fun i => i = c ∨ i = b) w w'

theorem made_all (w w1 : World) (p : Value) (b : Nat) (l : List Sec) (hC : CacheM T w c bm base n E.length (E.length + 1) F E) (hb : base ≤ b) (hbE : ∀ e ∈ E, e.hi ≤ b) (ho : w.heap[b]? = some (.cells #[.int .u32 0, .int .i32 1, .int .u32 0, .pointer none] 72 (0, 0)))
    (q : B w w1) (ht : TabN T w.heap.size w1.heap.size w1 p (slAll l)) :
    Made T c bm base n b l F E w p w.heap.size w1.heap.size ((w1.setCell ⟨b, 3, none⟩ p).setCell ⟨c, 1, none⟩ (.int .i64 (E.length + 1))) := by
  have h1 := hC.lb
  have h2 := hC.lt
  have hlt := obj_lt ho
  have o1 := (q.g (fun _ => False)).obj (fun h => h) ho
  have o2 := obj_set o1 3 p
  have o3 := obj_other o2 (p := ⟨c, 1, none⟩) (by show b ≠ c; omega) (.int .i64 (E.length + 1))
  have k1 := hC.keepB q
  have gb : G (fun i => i = b) w1 (w1.setCell ⟨b, 3, none⟩ p) := one_own _ _ _ _
  have gc : G (fun i => i = c) (w1.setCell ⟨b, 3, none⟩ p) ((w1.setCell ⟨b, 3, none⟩ p).setCell ⟨c, 1, none⟩ (.int .i64 (E.length + 1))) := one_own _ _ _ _
  have oc := obj_other k1.obj (p := ⟨b, 3, none⟩) (by show c ≠ b; omega) p
  have oc2 := obj_set oc 1 (.int .i64 (E.length + 1))
  have gg := (gb.mono (S' := fun i => i = c ∨ i = b) (fun _ _ h => .inr h)).trans (gc.mono (S' := fun i => i = c ∨ i = b) (fun _ _ h => .inl h))
  refine ⟨o3, gg.tabN ht (fun i h3 h4 h5 => ?_), Nat.le_refl _, ?_, (q.g _).trans gg⟩
  · rcases h5 with rfl | rfl
    · have := hC.le; omega
    · omega
  · obtain ⟨D, hD, hF⟩ := k1.map
    refine ⟨oc2, ⟨D, ?_, hF⟩, h2, h1, Nat.le_trans k1.le gg.size, fun e he => ?_, k1.apart⟩
    · exact (hD.setCell (a := ⟨b, 3, none⟩) (by show bm ≠ b; omega) _).setCell (a := ⟨c, 1, none⟩) (by show bm ≠ c; omega) _
    · have h3 := k1.ents e he
      have h4 := hbE e he
      have h5 := h3.ord
      have h6 := h3.low
      have h7 := h3.tab.at_
      have h8 : e.lo < e.hi := by obtain ⟨x, _, y1, y2⟩ := h7; omega
      exact ⟨gg.obj (fun h => by rcases h with h | h <;> omega) h3.obj, gg.tabN h3.tab (fun i z1 z2 h => by rcases h with h | h <;> omega), h3.right, h3.low, h3.ord⟩

set_option maxRecDepth 100000 in
set_option maxHeartbeats 1600000 in
theorem made_any (hOf : OfN T) (w : World) (v : Value) (l : List Sec) (b sB eB cB : Nat) (hC : CacheM T w c bm base n E.length (E.length + 1) F E) (hE : E.length < 1000000) (hv : IsSecs w v l) (hr : rightS l = true)
    (hb : base ≤ b) (hbE : ∀ e ∈ E, e.hi ≤ b) (ho : w.heap[b]? = some (.cells #[.int .u32 0, .int .i32 1, .int .u32 0, .pointer none] 72 (0, 0)))
    (hs : w.cell? ⟨sB, 0, none⟩ = some v) (he : w.cell? ⟨eB, 0, none⟩ = some (.pointer (some ⟨b, 0, none⟩))) (hc : w.cell? ⟨cB, 0, none⟩ = some (.pointer (some ⟨c, 0, none⟩))) :
    Calls Tryd.prog 27 #[.pointer (some ⟨sB, 0, none⟩), .pointer (some ⟨eB, 0, none⟩), .pointer (some ⟨cB, 0, none⟩)] w fun e w' => e = .returned (.tuple #[]) ∧ ∃ p lo hi, Made T c bm base n b l F E w p lo hi w' := by
  have cOf : ∀ w', B w w' → w'.heap.size = w.heap.size → Calls Tryd.prog 28 #[v] w' fun e w'' => ∃ p, e = .returned (.tuple #[p, .int .i64 0]) ∧ TabN T w.heap.size w''.heap.size w'' p (slAll l) ∧ B w w'' := fun w' q hsz => (hOf v l w' (hv.keepB q)).mono fun e w'' h => by
    rcases h with ⟨_, p, h1, h2, h3⟩ | ⟨h0, _⟩
    · rw [hsz] at h2
      exact ⟨p, h1, h2, q.trans h3⟩
    · rw [hr] at h0; cases h0
  have all := fun w1 p q ht => made_all w w1 p b l hC hb hbE ho q ht
  have h1 := hC.lb
  have cbB : cB ≠ b := fun e => by
    subst e
    rw [obj_cell ho] at hc
    cases hc
  have cO := hC.obj
  have wE : wrap64 ((E.length : Int) + 1) = (E.length : Int) + 1 := by unfold wrap64; omega
  go_enter Tryd.func27, Tryd.ntmps27
  go_wp2_with fail
  have HA := Lib.hid all
  have HO := Lib.hid ho
  clear all ho hC hbE hv hr hOf
  go_region_with (go_at_call 28; refine (cOf _ ((B.refl w).drew) rfl).mono ?_; rintro e w1 ⟨p, rfl, ht, q1⟩; obtain ⟨x, rfl, hx1, hx2⟩ := ht.at_; have he1 := q1.keep he; have b31 : w1.cell? ⟨b, 3, none⟩ = some (.pointer none) := (q1.keep (by rw [obj_cell HO.out]; rfl)); have bf1 : w1.frozen? ⟨b, 3, none⟩ = false := obj_free ((q1.g (fun _ => False)).obj (fun h => h) HO.out) 3)
  all_goals
    have oc := obj_other ((q1.g (fun _ => False)).obj (fun h => h) cO) (p := ⟨b, 3, none⟩) (by show c ≠ b; omega) (.pointer (some ⟨x, 0, none⟩))
    have cc := (World.cell?_setCell_other w1 ⟨b, 3, none⟩ ⟨cB, 0, none⟩ (.pointer (some ⟨x, 0, none⟩)) (fun e => cbB (congrArg Addr.block e).symm)).trans (q1.keep hc)
    have c1 : (w1.setCell ⟨b, 3, none⟩ (.pointer (some ⟨x, 0, none⟩))).cell? ⟨c, 1, none⟩ = some (.int .i64 E.length) := by rw [obj_cell oc]; rfl
    have cN := count_any c 1 _ 1 _ c1 (obj_free oc 1)
    rw [wE] at cN
    go_wp2_with (go_at_call 22; refine cN.mono ?_; rintro e w2 ⟨rfl, rfl⟩)
    go_end0
    exact ⟨rfl, _, _, _, HA.out w1 _ q1 ht⟩
end
end Go.Proofs.YtppiocopokbdlaaDoor
