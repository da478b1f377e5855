/-
  Layer 6: the code's own Table: the one table of a shape that may be; none of another one.
-/
import Derived.Test.YtppiocopokbdlaaDoorCent
import Derived.Test.YtppiocopokbdlaaDoorCmid
import Derived.Test.YtppiocopokbdlaaDoorOnce
import Derived.Test.YtppiocopokbdlaaDoorKey
import Derived.Test.YtppiocopokbdlaaDoorShR
import Derived.Deep.RegionWith
namespace Go.Proofs.YtppiocopokbdlaaDoor
open Go.RowKit

section
variable {T : World → Value → List (Int × Int) → Prop} {c bm base n BB : Nat} {E : List Ent}

/-- The count of what was asked goes up. -/
theorem asked_up (w : World) (hC : CacheC T w c bm base n E) : CacheC T (w.setCell ⟨c, 0, none⟩ (.int .i64 ((n : Int) + 1))) c bm base (n + 1) E :=
  CacheM.put hC (one_own w c 0 _) (by
    have := obj_set hC.obj 0 (.int .i64 ((n : Int) + 1))
    rw [this]
    simp)

set_option maxRecDepth 100000 in
set_option maxHeartbeats 1600000 in
theorem ctable_no (w : World) (v : Value) (l : List Sec) (hC : CacheC T w c bm base n E) (hn : n < 1000000) (hv : IsSecs w v l) (hr : rightS l = false) :
    Calls Tryd.prog 10 #[.pointer (some ⟨c, 0, none⟩), v] w fun e w' => e = .returned (.tuple #[.pointer none, .int .i64 23]) ∧ CacheC T w' c bm base (n + 1) E ∧ G (CS c bm) w w' := by
  have wE : wrap64 ((n : Int) + 1) = (n : Int) + 1 := by unfold wrap64; omega
  obtain ⟨ao, cap, rfl⟩ := hv.formL
  have q2 := ((B.refl w).alloc #[.pointer (some ⟨c, 0, none⟩)] 26).alloc #[.slice ao l.length cap] 23
  have hC2 := CacheM.keepB hC q2
  have s2 : ((w.alloc (.cells #[.pointer (some ⟨c, 0, none⟩)] 26)).alloc (.cells #[.slice ao l.length cap] 23)).cell? ⟨w.heap.size + 1, 0, none⟩ = some (.slice ao l.length cap) := by simp
  have g2 := q2.g (CS c bm)
  have hv2 := hv.keepB q2
  have lt2 : c < w.heap.size := obj_lt hC.obj
  have lt3 := hC.lt
  clear hC hv q2
  have hnot : ∀ (x : Bool) (w : World), (Op.unary .not (.bool x)).run Tryd.prog w = .ok (.bool (!x)) w := fun _ _ => rfl
  go_enter Tryd.func10, Tryd.ntmps10
  go_wp2_with fail
  generalize (w.alloc (.cells #[.pointer (some ⟨c, 0, none⟩)] 26)).alloc (.cells #[.slice ao l.length cap] 23) = w2 at *
  have cA := count_any c 0 n 1 w2 (by rw [obj_cell hC2.obj]; rfl) (obj_free hC2.obj 0)
  rw [wE] at cA
  have hC3 := asked_up w2 hC2
  have g3 := g2.trans (cs_own w2 c bm 0 (.int .i64 ((n : Int) + 1)))
  have hv3 := hC2.secs hv2 (cs_own w2 c bm 0 (.int .i64 ((n : Int) + 1)))
  have s3 := (cs_own w2 c bm 0 (.int .i64 ((n : Int) + 1))).keep (p := ⟨w.heap.size + 1, 0, none⟩) (by unfold CS; show ¬ (w.heap.size + 1 = c ∨ w.heap.size + 1 = bm); omega) s2
  generalize w2.setCell ⟨c, 0, none⟩ (.int .i64 ((n : Int) + 1)) = w3 at *
  have cR := right_code _ l w3 hv3
  rw [hr] at cR
  clear hv2 hC2
  refine cA.mono ?_
  rintro e w4 ⟨rfl, rfl⟩
  go_wp2_with fail
  refine cR.mono ?_
  rintro e w5 ⟨rfl, q5⟩
  have HC := Lib.hid (hC3.keepB q5)
  have HG := Lib.hid (g3.trans (q5.g _))
  clear hC3 g3 g2 q5
  go_wp2
  go_ret2
  exact ⟨rfl, HC.out, HG.out⟩

set_option maxRecDepth 100000 in
set_option maxHeartbeats 1600000 in
theorem ctable_yes (hOf : OfN T) (w : World) (v : Value) (l : List Sec) (hC : CacheC T w c bm base n E) (hn : n < 1000000) (hE : E.length < 1000000) (hv : IsSecs w v l) (hr : rightS l = true) (htab : Lib.TabBelow Tryd.prog BB w "internal/strconv.uint64pow10" .u64 Lib.pow10Tab) (hB : BB ≤ bm) :
    Calls Tryd.prog 10 #[.pointer (some ⟨c, 0, none⟩), v] w fun e w' => ∃ E' e0, e = .returned (.tuple #[e0.p, .int .i64 0]) ∧ e0 ∈ E' ∧ e0.l = l ∧ (E' = E ∨ (∀ x ∈ E, x.l ≠ l) ∧ w.heap.size ≤ e0.b ∧ E' = E ++ [e0]) ∧ CacheC T w' c bm base (n + 1) E' ∧ G (CS c bm) w w' := by
  have wE : wrap64 ((n : Int) + 1) = (n : Int) + 1 := by unfold wrap64; omega
  obtain ⟨ao, cap, rfl⟩ := hv.formL
  have q2 := ((B.refl w).alloc #[.pointer (some ⟨c, 0, none⟩)] 26).alloc #[.slice ao l.length cap] 23
  have hC2 := CacheM.keepB hC q2
  have s2 : ((w.alloc (.cells #[.pointer (some ⟨c, 0, none⟩)] 26)).alloc (.cells #[.slice ao l.length cap] 23)).cell? ⟨w.heap.size + 1, 0, none⟩ = some (.slice ao l.length cap) := by simp
  have r2 : ((w.alloc (.cells #[.pointer (some ⟨c, 0, none⟩)] 26)).alloc (.cells #[.slice ao l.length cap] 23)).cell? ⟨w.heap.size, 0, none⟩ = some (.pointer (some ⟨c, 0, none⟩)) := by rw [World.cell?_alloc_past _ _ _ (by simp)]; simp
  have g2 := q2.g (CS c bm)
  have hv2 := hv.keepB q2
  have lt2 : c < w.heap.size := obj_lt hC.obj
  have lt3 := hC.lt
  clear hC hv q2
  have hnot : ∀ (x : Bool) (w : World), (Op.unary .not (.bool x)).run Tryd.prog w = .ok (.bool (!x)) w := fun _ _ => rfl
  go_enter Tryd.func10, Tryd.ntmps10
  go_wp2_with fail
  generalize (w.alloc (.cells #[.pointer (some ⟨c, 0, none⟩)] 26)).alloc (.cells #[.slice ao l.length cap] 23) = w2 at *
  have cA := count_any c 0 n 1 w2 (by rw [obj_cell hC2.obj]; rfl) (obj_free hC2.obj 0)
  rw [wE] at cA
  have hC3 := asked_up w2 hC2
  have g3 := g2.trans (cs_own w2 c bm 0 (.int .i64 ((n : Int) + 1)))
  have hv3 := hC2.secs hv2 (cs_own w2 c bm 0 (.int .i64 ((n : Int) + 1)))
  have s3 := (cs_own w2 c bm 0 (.int .i64 ((n : Int) + 1))).keep (p := ⟨w.heap.size + 1, 0, none⟩) (by unfold CS; show ¬ (w.heap.size + 1 = c ∨ w.heap.size + 1 = bm); omega) s2
  have r3 := (cs_own w2 c bm 0 (.int .i64 ((n : Int) + 1))).keep (p := ⟨w.heap.size, 0, none⟩) (by unfold CS; show ¬ (w.heap.size = c ∨ w.heap.size = bm); omega) r2
  generalize w2.setCell ⟨c, 0, none⟩ (.int .i64 ((n : Int) + 1)) = w3 at *
  have cR := right_code _ l w3 hv3
  rw [hr] at cR
  clear hv2 hC2
  refine cA.mono ?_
  rintro e w4 ⟨rfl, rfl⟩
  go_wp2_with fail
  refine cR.mono ?_
  rintro e w5 ⟨rfl, q5⟩
  have hC5 := CacheM.keepB hC3 q5
  have hv5 := hv3.keepB q5
  have s5 := q5.keep s3
  have r5 := q5.keep r3
  have g5 := g3.trans (q5.g _)
  clear hC3 hv3 s3 r3 g3 q5 cR cA s2 r2 g2
  obtain ⟨hl1, hl4, _⟩ := right_all hr
  have hkl : (keyText l).length ≤ 1150 := by
    have := key_len l (by
      rcases hv5 with ⟨_, rfl⟩ | ⟨a, _, _, _, _, h4⟩
      · intro s hs; cases hs
      · intro s hs
        obtain ⟨i, hi⟩ := List.getElem?_of_mem hs
        exact (h4 i s hi).1)
    omega
  have htab5 : ∀ w', B w5 w' → Lib.TabIs Tryd.prog w' "internal/strconv.uint64pow10" .u64 Lib.pow10Tab := fun w' q =>
    (htab.on ((g5.trans (q.g _)).below (fun i hi => by rcases hi with rfl | rfl <;> omega) (by omega))).here
  have cK : ∀ w', B w5 w' → Calls Tryd.prog 25 #[.slice ao l.length cap] w' fun e w'' => e = .returned (.string (keyS l)) ∧ B w' w'' := fun w' q => key_any _ l (by omega) w' (hv5.keepB q) (htab5 w' q)
  have cE : ∀ w', B w5 w' → Calls Tryd.prog 24 #[.pointer (some ⟨c, 0, none⟩), .string (keyS l)] w' fun e w'' => ∃ b, e = .returned (.pointer (some ⟨b, 0, none⟩)) ∧ (b < w5.heap.size ∨ w'.heap.size ≤ b) ∧ b < w''.heap.size ∧ AtE T c bm base (n + 1) E l w5.heap.size b w'' ∧ G (CS c bm) w' w'' := fun w' q => by
    by_cases ex : ∃ e0 ∈ E, e0.l = l
    · obtain ⟨e0, k1, k2⟩ := ex
      refine (entry_hit w' l hkl (CacheM.keepB hC5 q) e0 k1 k2).mono ?_
      rintro e w'' ⟨rfl, h1, h2⟩
      have := CacheM.his hC5 e0 k1
      have := CacheM.his h1 e0 k1
      exact ⟨_, rfl, .inl (by omega), by omega, .inl ⟨e0, k1, k2, rfl, h1⟩, h2⟩
    · have hne : ∀ e ∈ E, e.l ≠ l := fun e he h => ex ⟨e, he, h⟩
      refine (entry_new w' l hkl (CacheM.keepB hC5 q) hne hE).mono ?_
      rintro e w'' ⟨b, rfl, h1, h2, h3, h4⟩
      exact ⟨b, rfl, .inr h1, obj_lt h2, .inr ⟨hne, fun e he => by have := CacheM.his (CacheM.keepB hC5 q) e he; omega, ⟨by have := (CacheM.keepB hC5 q).le; omega, by have := q.below.size; omega⟩, h2, h3⟩, h4⟩
  have hst : ∀ b w1 w6, B w5 w1 → G (CS c bm) w1 w6 → AtE T c bm base (n + 1) E l w5.heap.size b w6 → ∀ eB, w5.heap.size ≤ eB → b ≠ eB → ∀ u, w6.cell? ⟨eB, 0, none⟩ = some u →
      Mid T c bm base (n + 1) E l (.slice ao l.length cap) w5 b eB (w.heap.size + 1) w.heap.size (w6.setCell ⟨eB, 0, none⟩ (.pointer (some ⟨b, 0, none⟩))) :=
    fun b w1 w6 q g hA eB h1 h2 u hu => mid_store hC5 hv5 s5 r5 (by omega) (by omega) ((q.g _).trans g) hA h1 h2 hu
  have hnw : ∀ b w1 w6, B w5 w1 → G (CS c bm) w1 w6 → AtE T c bm base (n + 1) E l w5.heap.size b w6 →
      Mid T c bm base (n + 1) E l (.slice ao l.length cap) w5 b w6.heap.size (w.heap.size + 1) w.heap.size (w6.alloc (.cells #[.pointer (some ⟨b, 0, none⟩)] 64)) :=
    fun b w1 w6 q g hA => mid_new hC5 hv5 s5 r5 (by omega) (by omega) ((q.g _).trans g) hA
  have G5 := Lib.hid g5
  have HC := Lib.hid hC5
  have HV := Lib.hid hv5
  clear htab htab5 hC5 hv5 g5
  have sA : ∀ o, (w5.alloc o).cell? ⟨w.heap.size + 1, 0, none⟩ = some (.slice ao l.length cap) := fun o => by rw [World.cell?_alloc_past _ _ _ (World.block_lt_of_cell? w5 _ s5)]; exact s5
  have rA : ∀ o, (w5.alloc o).cell? ⟨w.heap.size, 0, none⟩ = some (.pointer (some ⟨c, 0, none⟩)) := fun o => by rw [World.cell?_alloc_past _ _ _ (World.block_lt_of_cell? w5 _ r5)]; exact r5
  have nCS : ∀ i, w5.heap.size ≤ i → ¬ CS c bm i := fun i hi hs => by have := obj_lt HC.out.obj; rcases hs with rfl | rfl <;> omega
  go_wp2_with fail
  refine Code.wp_mono (Q := fun x a' w' => ∃ b eB, x = .normal ∧ a' = { tmps := #[.pointer (some ⟨c, 0, none⟩), .slice ao l.length cap, .pointer (some ⟨w.heap.size, 0, none⟩), .pointer (some ⟨w.heap.size + 1, 0, none⟩), .pointer none, .int .i64 0, .pointer (some ⟨eB, 0, none⟩), .pointer (some ⟨c, 0, none⟩), .pointer (some ⟨c, 0, none⟩), .pointer (some ⟨c, 0, none⟩), .int .i64 ((n : Int) + 1), .slice ao l.length cap, .bool true, .bool false, .pointer (some ⟨c, 0, none⟩), .slice ao l.length cap, .string (keyS l), .pointer (some ⟨b, 0, none⟩), undef, undef, undef, undef, undef, undef, undef, undef, undef], defers := [] } ∧
    Mid T c bm base (n + 1) E l (.slice ao l.length cap) w5 b eB (w.heap.size + 1) w.heap.size w') ?_ ?_
  · rintro x a' w7 ⟨b, eB, rfl, rfl, hM⟩
    have eC := hM.eC
    have hG := G5.out.trans hM.g
    rcases hM.at_ with ⟨e0, k1, k2, rfl, k4⟩ | ⟨k1, k2, ⟨k3, k3'⟩, k4, k5⟩
    · have ob := (k4.ents e0 k1).obj
      obtain ⟨x, hx, _, _⟩ := (k4.ents e0 k1).tab.at_
      have d0 : w7.cell? ⟨e0.b, 0, none⟩ = some (.int .u32 1) := by rw [obj_cell ob]; rfl
      have d3 : w7.cell? ⟨e0.b, 3, none⟩ = some (.pointer (some ⟨x, 0, none⟩)) := by rw [obj_cell ob, ← hx]; rfl
      have K4 := Lib.hid k4
      have HX := Lib.hid hx
      clear hx k4 ob hM sA rA nCS hst hnw cK cE
      go_wp2_with (go_at_call 26; refine (do_done e0.b 0 _ _ d0).mono ?_; rintro e w8 ⟨rfl, rfl⟩)
      go_ret2
      exact ⟨E, e0, by rw [HX.out]; rfl, k1, k2, .inl rfl, K4.out, hG⟩
    · obtain ⟨m1, m2, m3⟩ := new_locked k2 k3 k4 k5
      have hlt : b < (w7.setCell ⟨b, 1, none⟩ (.int .i32 1)).heap.size := obj_lt m2
      have z0 : w7.cell? ⟨b, 0, none⟩ = some (.int .u32 0) := by rw [obj_cell k4]; rfl
      have z1 : w7.cell? ⟨b, 1, none⟩ = some (.int .i32 0) := by rw [obj_cell k4]; rfl
      have ne : ∀ x v, w7.cell? ⟨x, 0, none⟩ = some v → v ≠ .int .u32 0 → ¬ x = b := fun x v h1 h2 h3 => by
        subst h3
        rw [z0] at h1
        exact h2 (Option.some.inj h1).symm
      have nS := ne _ _ hM.sC (by intro h; cases h)
      have nE := ne _ _ hM.eC (by intro h; cases h)
      have nC := ne _ _ hM.cC (by intro h; cases h)
      have nEc : ¬ eB = c := fun h => by
        subst h
        rw [obj_cell k5.obj] at eC
        cases eC
      have hs := isSecs_keepG hM.secs (S := fun i => i = b) (fun i hi j r => by
        subst hi
        rw [obj_cell k4]
        match j with
        | 0 => simp
        | 1 => simp
        | 2 => simp
        | 3 => simp
        | j + 4 => simp) m3
      have hf := made_any hOf (w7.setCell ⟨b, 1, none⟩ (.int .i32 1)) _ l b (w.heap.size + 1) eB w.heap.size m1 hE hs hr k3 k2 m2 (m3.keep nS hM.sC) (m3.keep nE hM.eC) (m3.keep nC hM.cC)
      have hD := do_first b 0 #[.pointer (some ⟨w.heap.size + 1, 0, none⟩), .pointer (some ⟨eB, 0, none⟩), .pointer (some ⟨w.heap.size, 0, none⟩)] _ w7 z0 z1 (obj_free k4 1) hf (fun w' ⟨p, lo, hi, h⟩ => by
        refine ⟨?_, ?_, obj_free h.obj 0, obj_free h.obj 1⟩
        · rw [obj_cell h.obj]; rfl
        · rw [obj_cell h.obj]; rfl)
      simp only [Nat.zero_add] at hD
      have hEnd := fun p lo hi w8 h => made_end (T := T) (c := c) (bm := bm) (base := base) (n := n + 1) (E := E) (p := p) (lo := lo) (hi := hi) (w8 := w8) hr k1 k3 k2 hlt h
      have e1 := m3.keep nE eC
      have M3 := Lib.hid m3
      clear hM sA rA nCS hst hnw cK cE k4 k5 m1 m2 m3 hf hs z0 z1 ne
      go_wp2_with (go_at_call 26; refine hD.mono ?_; rintro e w9 ⟨rfl, w8, ⟨p, lo, hi, hm⟩, rfl⟩; obtain ⟨y1, y2, y3⟩ := hEnd p lo hi w8 hm; obtain ⟨x, rfl, _, _⟩ := hm.tab.at_; have e2 := y3.keep (by rintro (h | h); exact nEc h; exact nE h) e1; have Y1 := Lib.hid y1; have Y3 := Lib.hid y3; clear y1 y3 hm; generalize (w8.drew.setCell ⟨b, 0, none⟩ (.int .u32 1)).setCell ⟨b, 1, none⟩ (.int .i32 0) = w9 at *)
      go_ret2
      exact ⟨E ++ [⟨l, b, .pointer (some ⟨x, 0, none⟩), lo, hi⟩], ⟨l, b, .pointer (some ⟨x, 0, none⟩), lo, hi⟩, rfl, List.mem_append.2 (.inr (List.mem_singleton.2 rfl)), rfl, .inr ⟨k1, Nat.le_trans G5.out.size k3', rfl⟩, Y1.out,
        hG.then_ ((M3.out.mono (S' := fun i => i = c ∨ i = b) (fun _ _ h => .inr h)).trans Y3.out) (fun i hi => by
          rcases hi with rfl | rfl
          · exact .inl (.inl rfl)
          · exact .inr (Nat.le_trans G5.out.size k3'))⟩
  · go_region_with (first
      | (go_at_call 25; with_reducible refine (cK _ ((B.refl w5).drew)).mono ?_; rintro e w1 ⟨rfl, q1⟩; have r1 : w1.cell? ⟨w.heap.size, 0, none⟩ = some (.pointer (some ⟨c, 0, none⟩)) := q1.keep (by simpa using r5); have rB : ∀ o, (w1.alloc o).cell? ⟨w.heap.size, 0, none⟩ = some (.pointer (some ⟨c, 0, none⟩)) := fun o => by rw [World.cell?_alloc_past _ _ _ (World.block_lt_of_cell? w1 _ r1)]; exact r1)
      | (go_at_call 25; with_reducible refine (cK _ (((B.refl w5).alloc _ _).drew)).mono ?_; rintro e w1 ⟨rfl, q1⟩; have r1 : w1.cell? ⟨w.heap.size, 0, none⟩ = some (.pointer (some ⟨c, 0, none⟩)) := q1.keep (by simpa using rA _); have e1 := q1.keep (p := ⟨w5.heap.size, 0, none⟩) (v := .pointer none) (by simp); have f1 := q1.unfrozen (p := ⟨w5.heap.size, 0, none⟩) (v := .pointer none) (by simp) (by simp))
      | (go_at_call 24; with_reducible refine (cE _ (((B.refl w5).drew).trans q1)).mono ?_; rintro e w6 ⟨b, rfl, hb1, hb2, hA, g6⟩; have hM := hnw b w1 w6 (((B.refl w5).drew).trans q1) g6 hA)
      | (go_at_call 24; with_reducible refine (cE _ ((((B.refl w5).alloc _ _).drew).trans q1)).mono ?_; rintro e w6 ⟨b, rfl, hb1, hb2, hA, g6⟩; have hq0 := q1.below.size; simp at hq0; have hq1 : ¬ CS c bm w5.heap.size := nCS _ (Nat.le_refl _); have e6 := g6.keep (by show ¬ CS c bm w5.heap.size; exact hq1) e1; have f6 := g6.unfrozen (by show ¬ CS c bm w5.heap.size; exact hq1) e1 f1; have hM := hst b w1 w6 ((((B.refl w5).alloc _ _).drew).trans q1) g6 hA w5.heap.size (Nat.le_refl _) (by omega) _ e6)
      | (go_at_call 24; with_reducible refine (cE _ ((((B.refl w5).drew).trans q1).alloc _ _)).mono ?_; rintro e w6 ⟨b, rfl, hb1, hb2, hA, g6⟩; have hq0 := q1.below.size; simp at hq0 hb1; have hq1 : ¬ CS c bm w1.heap.size := nCS _ hq0; have e6 := g6.keep (p := ⟨w1.heap.size, 0, none⟩) (v := .pointer none) (by show ¬ CS c bm w1.heap.size; exact hq1) (by simp); have f6 := g6.unfrozen (p := ⟨w1.heap.size, 0, none⟩) (v := .pointer none) (by show ¬ CS c bm w1.heap.size; exact hq1) (by simp) (by simp); have hM := hst b _ w6 ((((B.refl w5).drew).trans q1).alloc _ _) g6 hA w1.heap.size hq0 (by omega) _ e6))
    all_goals exact ⟨_, _, rfl, rfl, hM⟩
end
end Go.Proofs.YtppiocopokbdlaaDoor
