/-
  Layer 3: the walk of ShapeBends.
-/
import Derived.Test.YthibjkjdimgipaaL3straight
import Derived.Test.YthibjkjdimgipaaL3bl
import Derived.Test.YthibjkjdimgipaaR3right
namespace Go.Proofs.Ythibjkjdimgipaa
open Go.RowKit

/-- The last line of the law, over a slice of any sections. -/
def Last (v : Value) (w : World) : Prop := ∃ l, IsSecs w v l

set_option maxRecDepth 100000 in
set_option maxHeartbeats 16000000 in
theorem bends_0 (hS : SideC) (hR : RightC) (hH : HeightC) (k what v n : Int) (hk : (Lit.int .u8 k).wf = true) (hw : (Lit.int .u8 what).wf = true) (hv : (Lit.int .i64 v).wf = true) (hn : (Lit.int .u8 n).wf = true) (hc : what % 9 = 0) (w : World) :
    Calls Try.prog 4 #[.int .u8 k, .int .u8 what, .int .i64 v, .int .u8 n] w fun e w' => e = .returned (.bool true) ∧ B w w' := by
  obtain ⟨k1, k2⟩ := u8_wf hk
  obtain ⟨w1, w2⟩ := u8_wf hw
  obtain ⟨n1, n2⟩ := u8_wf hn
  have iv := i64_wf hv
  clear hk hw hn hv
  have c0 := known3_any hS hR hH
  have cK := fun w => shape_any k k1 k2 w
  have rK := shape_right (k % 6).toNat
  generalize shapeOf (k % 6).toNat = lk at *
  obtain ⟨lk1, lk4, lok⟩ := right_all rK
  obtain ⟨i0, hi0, hz0, hz1, hz2⟩ := info_parts secInfo
  clear hS
  go_enter Try.func4, Try.ntmps4
  go_wp2_with fail
  refine (c0 _).mono ?_
  rintro e W1 ⟨rfl, g⟩
  go_wp2_with fail
  refine (cK _).mono ?_
  rintro e W2 ⟨v1, rfl, hv1, q2⟩
  replace g := g.trans q2.b
  rcases hv1 with ⟨rfl, rfl⟩ | ⟨a, cap, rfl, h2, h3, h4⟩
  · simp at lk1
  have fl1 := flat_len lk
  have m1 : 0 + lk.length ≤ maxLen := by unfold maxLen; omega
  have m2 : (0 + lk.length) * 48 ≤ 140737488355328 := by omega
  have m3 : w.heap.size ≤ W2.heap.size := g.below.size
  have fl2 := secs_news h4
  obtain ⟨ix, hix⟩ : ∃ i : Nat, n % (lk.length : Int) = (i : Int) := ⟨(n % (lk.length : Int)).toNat, by have := Int.emod_nonneg n (show (lk.length : Int) ≠ 0 by omega); omega⟩
  have hix1 : ix < lk.length := by have := Int.emod_lt_of_pos n (show (0 : Int) < (lk.length : Int) by omega); omega
  have hix2 : (ix : Int) < (lk.length : Int) := by omega
  have hix0 : (0 : Int) ≤ (ix : Int) := Int.natCast_nonneg _
  have hg := List.getElem?_eq_getElem hix1
  have hI := (h4 ix _ hg).1
  have hIall : ∀ s ∈ lk, s.I := fun s hs => by obtain ⟨q, hq⟩ := List.getElem?_of_mem hs; exact (h4 q s hq).1
  generalize lk[ix] = s at *
  obtain ⟨r, h, a0, b0, a1, b1⟩ := s

  have hset := flat_set lk ix 1 ⟨r, h, a0, b0, a1, b1⟩ ⟨r, v, a0, b0, a1, b1⟩ (.int .i64 v) hg (by omega) rfl
  have hI' : ∀ s ∈ lk.set ix ⟨r, v, a0, b0, a1, b1⟩, s.I := fun s hs => by
    rcases List.mem_or_eq_of_mem_set hs with h | rfl
    · exact hIall s h
    · exact ⟨iv, hI.2.1, hI.2.2.1, hI.2.2.2.1, hI.2.2.2.2⟩
  have HL : Hid (lk.length = (lk.set ix ⟨r, v, a0, b0, a1, b1⟩).length) := Lib.hid (by simp)
  have HSET := Lib.hid hset
  have HIA := Lib.hid hI'
  have flj := flat_get lk ix 1 _ hg (by omega)
  clear hset hI' hIall hI h4
  generalize hl' : lk.set ix ⟨r, v, a0, b0, a1, b1⟩ = l' at *
  have hrr : rightS l' = true ∨ rightS l' = false := by cases rightS l' <;> simp
  clear hl' hg
  rcases hrr with hrr | hrr
  · go_wp2_with (at_builtin; refine wpList_append_lies _ rfl _ _ 25 rfl w.heap.size 30 i0 _ 6 48 Try.underlying25 hi0 hz0 hz1 hz2 rfl (by omega) (.slice none 0 0) 0 [] rfl (World.ownsRow_nil _ _ _ _) a lk.length cap (flat lk) rfl fl1 fl2 (flat_one lk) (by omega) m1 m2 m3 W2.heap.size rfl ?_; intro gb cp W3 hown hgrow hat hlt; simp only [Nat.zero_add, List.nil_append] at hown; have hcell := (hown.cellAt (ix * 6 + 1) (by omega)).trans flj; have hfr := hown.frozenAt (ix * 6 + 1); simp only [Sec.cells, List.getElem?_cons_zero, List.getElem?_cons_succ] at hcell hfr; have g3 := g.grownBy hgrow (fun _ h => by cases h); go_wp2_with fail)
    have hst := (hown.stored (ix * 6 + 1) (.int .i64 v)).1
    have hset := HSET.out
    try simp only [Nat.add_zero] at hset
    rw [← hset] at hst
    have HS := secs_own hst HL.out.symm (by omega) HIA.out
    have g4 := g3.setCell (p := ⟨gb, ix * 6 + 1, none⟩) (hown.lt gb rfl).1 (.int .i64 v)
    clear hst hset HSET HL HIA hown hgrow hat hlt hcell hfr g3 flj g fl1 fl2 hix1 hix2 hix0 hix m1 m2 m3
    refine (hR _ l' _ HS).mono ?_
    rintro e W5 ⟨rfl, q5⟩
    replace HS := HS.keepB q5
    replace g4 := g4.trans q5
    clear q5
    go_wp2_with fail
    refine (r3right_any _ l' _ HS).mono ?_
    rintro e W6 ⟨rfl, q6⟩
    replace HS := HS.keepB q6.b
    replace g4 := g4.trans q6.b
    clear q6
    go_wp2_with fail
    refine (r3right_any _ l' _ HS).mono ?_
    rintro e W7 ⟨rfl, q7⟩
    replace HS := HS.keepB q7.b
    replace g4 := g4.trans q7.b
    clear q7
    have hsum := sum_right l' hrr
    go_wp2_with fail
    refine (hH _ l' _ HS hrr).mono ?_
    rintro e W8 ⟨rfl, q8⟩
    replace HS := HS.keepB q8
    replace g4 := g4.trans q8
    clear q8
    go_wp2_with fail
    refine (rheight_any _ l' _ HS).mono ?_
    rintro e W9 ⟨rfl, rfl⟩
    go_wp2
    go_ret
    exact ⟨rfl, g4⟩
  · go_wp2_with (at_builtin; refine wpList_append_lies _ rfl _ _ 25 rfl w.heap.size 30 i0 _ 6 48 Try.underlying25 hi0 hz0 hz1 hz2 rfl (by omega) (.slice none 0 0) 0 [] rfl (World.ownsRow_nil _ _ _ _) a lk.length cap (flat lk) rfl fl1 fl2 (flat_one lk) (by omega) m1 m2 m3 W2.heap.size rfl ?_; intro gb cp W3 hown hgrow hat hlt; simp only [Nat.zero_add, List.nil_append] at hown; have hcell := (hown.cellAt (ix * 6 + 1) (by omega)).trans flj; have hfr := hown.frozenAt (ix * 6 + 1); simp only [Sec.cells, List.getElem?_cons_zero, List.getElem?_cons_succ] at hcell hfr; have g3 := g.grownBy hgrow (fun _ h => by cases h); go_wp2_with fail)
    have hst := (hown.stored (ix * 6 + 1) (.int .i64 v)).1
    have hset := HSET.out
    try simp only [Nat.add_zero] at hset
    rw [← hset] at hst
    have HS := secs_own hst HL.out.symm (by omega) HIA.out
    have g4 := g3.setCell (p := ⟨gb, ix * 6 + 1, none⟩) (hown.lt gb rfl).1 (.int .i64 v)
    clear hst hset HSET HL HIA hown hgrow hat hlt hcell hfr g3 flj g fl1 fl2 hix1 hix2 hix0 hix m1 m2 m3
    refine (hR _ l' _ HS).mono ?_
    rintro e W5 ⟨rfl, q5⟩
    replace HS := HS.keepB q5
    replace g4 := g4.trans q5
    clear q5
    go_wp2_with fail
    refine (r3right_any _ l' _ HS).mono ?_
    rintro e W6 ⟨rfl, q6⟩
    replace HS := HS.keepB q6.b
    replace g4 := g4.trans q6.b
    clear q6
    go_wp2_with fail
    refine (r3right_any _ l' _ HS).mono ?_
    rintro e W7 ⟨rfl, q7⟩
    replace HS := HS.keepB q7.b
    replace g4 := g4.trans q7.b
    clear q7
    go_wp2
    go_ret
    exact ⟨rfl, g4⟩

set_option maxRecDepth 100000 in
set_option maxHeartbeats 16000000 in
theorem bends_1 (hS : SideC) (hR : RightC) (hH : HeightC) (k what v n : Int) (hk : (Lit.int .u8 k).wf = true) (hw : (Lit.int .u8 what).wf = true) (hv : (Lit.int .i64 v).wf = true) (hn : (Lit.int .u8 n).wf = true) (hc : what % 9 = 1) (w : World) :
    Calls Try.prog 4 #[.int .u8 k, .int .u8 what, .int .i64 v, .int .u8 n] w fun e w' => e = .returned (.bool true) ∧ B w w' := by
  obtain ⟨k1, k2⟩ := u8_wf hk
  obtain ⟨w1, w2⟩ := u8_wf hw
  obtain ⟨n1, n2⟩ := u8_wf hn
  have iv := i64_wf hv
  clear hk hw hn hv
  have c0 := known3_any hS hR hH
  have cK := fun w => shape_any k k1 k2 w
  have rK := shape_right (k % 6).toNat
  generalize shapeOf (k % 6).toNat = lk at *
  obtain ⟨lk1, lk4, lok⟩ := right_all rK
  obtain ⟨i0, hi0, hz0, hz1, hz2⟩ := info_parts secInfo
  clear hS
  go_enter Try.func4, Try.ntmps4
  go_wp2_with fail
  refine (c0 _).mono ?_
  rintro e W1 ⟨rfl, g⟩
  go_wp2_with fail
  refine (cK _).mono ?_
  rintro e W2 ⟨v1, rfl, hv1, q2⟩
  replace g := g.trans q2.b
  rcases hv1 with ⟨rfl, rfl⟩ | ⟨a, cap, rfl, h2, h3, h4⟩
  · simp at lk1
  have fl1 := flat_len lk
  have m1 : 0 + lk.length ≤ maxLen := by unfold maxLen; omega
  have m2 : (0 + lk.length) * 48 ≤ 140737488355328 := by omega
  have m3 : w.heap.size ≤ W2.heap.size := g.below.size
  have fl2 := secs_news h4
  obtain ⟨ix, hix⟩ : ∃ i : Nat, n % (lk.length : Int) = (i : Int) := ⟨(n % (lk.length : Int)).toNat, by have := Int.emod_nonneg n (show (lk.length : Int) ≠ 0 by omega); omega⟩
  have hix1 : ix < lk.length := by have := Int.emod_lt_of_pos n (show (0 : Int) < (lk.length : Int) by omega); omega
  have hix2 : (ix : Int) < (lk.length : Int) := by omega
  have hix0 : (0 : Int) ≤ (ix : Int) := Int.natCast_nonneg _
  have hg := List.getElem?_eq_getElem hix1
  have hI := (h4 ix _ hg).1
  have hIall : ∀ s ∈ lk, s.I := fun s hs => by obtain ⟨q, hq⟩ := List.getElem?_of_mem hs; exact (h4 q s hq).1
  generalize lk[ix] = s at *
  obtain ⟨r, h, a0, b0, a1, b1⟩ := s
  obtain ⟨y, ey⟩ : ∃ y, bits .and .i64 v 1023 = y := ⟨_, rfl⟩
  obtain ⟨z, ez⟩ : ∃ z, wrap64 (100 * y) = z := ⟨_, rfl⟩
  have ez2 : IntKind.i64.wrap (100 * y) = z := by rw [← ez, IntKind.wrap_i64]; unfold wrap64; omega
  have iz : I64 z := by rw [← ez]; exact wrap64_I64 _
  have hset := flat_set lk ix 1 ⟨r, h, a0, b0, a1, b1⟩ ⟨r, z, a0, b0, a1, b1⟩ (.int .i64 z) hg (by omega) rfl
  have hI' : ∀ s ∈ lk.set ix ⟨r, z, a0, b0, a1, b1⟩, s.I := fun s hs => by
    rcases List.mem_or_eq_of_mem_set hs with h | rfl
    · exact hIall s h
    · exact ⟨iz, hI.2.1, hI.2.2.1, hI.2.2.2.1, hI.2.2.2.2⟩
  have HL : Hid (lk.length = (lk.set ix ⟨r, z, a0, b0, a1, b1⟩).length) := Lib.hid (by simp)
  have HSET := Lib.hid hset
  have HIA := Lib.hid hI'
  have flj := flat_get lk ix 1 _ hg (by omega)
  clear hset hI' hIall hI h4
  generalize hl' : lk.set ix ⟨r, z, a0, b0, a1, b1⟩ = l' at *
  have hrr : rightS l' = true ∨ rightS l' = false := by cases rightS l' <;> simp
  clear hl' hg
  rcases hrr with hrr | hrr
  · go_wp2_with (at_builtin; refine wpList_append_lies _ rfl _ _ 25 rfl w.heap.size 30 i0 _ 6 48 Try.underlying25 hi0 hz0 hz1 hz2 rfl (by omega) (.slice none 0 0) 0 [] rfl (World.ownsRow_nil _ _ _ _) a lk.length cap (flat lk) rfl fl1 fl2 (flat_one lk) (by omega) m1 m2 m3 W2.heap.size rfl ?_; intro gb cp W3 hown hgrow hat hlt; simp only [Nat.zero_add, List.nil_append] at hown; have hcell := (hown.cellAt (ix * 6 + 1) (by omega)).trans flj; have hfr := hown.frozenAt (ix * 6 + 1); simp only [Sec.cells, List.getElem?_cons_zero, List.getElem?_cons_succ] at hcell hfr; have g3 := g.grownBy hgrow (fun _ h => by cases h); go_wp2_with fail)
    have hst := (hown.stored (ix * 6 + 1) (.int .i64 z)).1
    have hset := HSET.out
    try simp only [Nat.add_zero] at hset
    rw [← hset] at hst
    have HS := secs_own hst HL.out.symm (by omega) HIA.out
    have g4 := g3.setCell (p := ⟨gb, ix * 6 + 1, none⟩) (hown.lt gb rfl).1 (.int .i64 z)
    clear hst hset HSET HL HIA hown hgrow hat hlt hcell hfr g3 flj g fl1 fl2 hix1 hix2 hix0 hix m1 m2 m3
    refine (hR _ l' _ HS).mono ?_
    rintro e W5 ⟨rfl, q5⟩
    replace HS := HS.keepB q5
    replace g4 := g4.trans q5
    clear q5
    go_wp2_with fail
    refine (r3right_any _ l' _ HS).mono ?_
    rintro e W6 ⟨rfl, q6⟩
    replace HS := HS.keepB q6.b
    replace g4 := g4.trans q6.b
    clear q6
    go_wp2_with fail
    refine (r3right_any _ l' _ HS).mono ?_
    rintro e W7 ⟨rfl, q7⟩
    replace HS := HS.keepB q7.b
    replace g4 := g4.trans q7.b
    clear q7
    have hsum := sum_right l' hrr
    go_wp2_with fail
    refine (hH _ l' _ HS hrr).mono ?_
    rintro e W8 ⟨rfl, q8⟩
    replace HS := HS.keepB q8
    replace g4 := g4.trans q8
    clear q8
    go_wp2_with fail
    refine (rheight_any _ l' _ HS).mono ?_
    rintro e W9 ⟨rfl, rfl⟩
    go_wp2
    go_ret
    exact ⟨rfl, g4⟩
  · go_wp2_with (at_builtin; refine wpList_append_lies _ rfl _ _ 25 rfl w.heap.size 30 i0 _ 6 48 Try.underlying25 hi0 hz0 hz1 hz2 rfl (by omega) (.slice none 0 0) 0 [] rfl (World.ownsRow_nil _ _ _ _) a lk.length cap (flat lk) rfl fl1 fl2 (flat_one lk) (by omega) m1 m2 m3 W2.heap.size rfl ?_; intro gb cp W3 hown hgrow hat hlt; simp only [Nat.zero_add, List.nil_append] at hown; have hcell := (hown.cellAt (ix * 6 + 1) (by omega)).trans flj; have hfr := hown.frozenAt (ix * 6 + 1); simp only [Sec.cells, List.getElem?_cons_zero, List.getElem?_cons_succ] at hcell hfr; have g3 := g.grownBy hgrow (fun _ h => by cases h); go_wp2_with fail)
    have hst := (hown.stored (ix * 6 + 1) (.int .i64 z)).1
    have hset := HSET.out
    try simp only [Nat.add_zero] at hset
    rw [← hset] at hst
    have HS := secs_own hst HL.out.symm (by omega) HIA.out
    have g4 := g3.setCell (p := ⟨gb, ix * 6 + 1, none⟩) (hown.lt gb rfl).1 (.int .i64 z)
    clear hst hset HSET HL HIA hown hgrow hat hlt hcell hfr g3 flj g fl1 fl2 hix1 hix2 hix0 hix m1 m2 m3
    refine (hR _ l' _ HS).mono ?_
    rintro e W5 ⟨rfl, q5⟩
    replace HS := HS.keepB q5
    replace g4 := g4.trans q5
    clear q5
    go_wp2_with fail
    refine (r3right_any _ l' _ HS).mono ?_
    rintro e W6 ⟨rfl, q6⟩
    replace HS := HS.keepB q6.b
    replace g4 := g4.trans q6.b
    clear q6
    go_wp2_with fail
    refine (r3right_any _ l' _ HS).mono ?_
    rintro e W7 ⟨rfl, q7⟩
    replace HS := HS.keepB q7.b
    replace g4 := g4.trans q7.b
    clear q7
    go_wp2
    go_ret
    exact ⟨rfl, g4⟩

set_option maxRecDepth 100000 in
set_option maxHeartbeats 16000000 in
theorem bends_2 (hS : SideC) (hR : RightC) (hH : HeightC) (k what v n : Int) (hk : (Lit.int .u8 k).wf = true) (hw : (Lit.int .u8 what).wf = true) (hv : (Lit.int .i64 v).wf = true) (hn : (Lit.int .u8 n).wf = true) (hc : what % 9 = 2) (w : World) :
    Calls Try.prog 4 #[.int .u8 k, .int .u8 what, .int .i64 v, .int .u8 n] w fun e w' => e = .returned (.bool true) ∧ B w w' := by
  obtain ⟨k1, k2⟩ := u8_wf hk
  obtain ⟨w1, w2⟩ := u8_wf hw
  obtain ⟨n1, n2⟩ := u8_wf hn
  have iv := i64_wf hv
  clear hk hw hn hv
  have c0 := known3_any hS hR hH
  have cK := fun w => shape_any k k1 k2 w
  have rK := shape_right (k % 6).toNat
  generalize shapeOf (k % 6).toNat = lk at *
  obtain ⟨lk1, lk4, lok⟩ := right_all rK
  obtain ⟨i0, hi0, hz0, hz1, hz2⟩ := info_parts secInfo
  clear hS
  go_enter Try.func4, Try.ntmps4
  go_wp2_with fail
  refine (c0 _).mono ?_
  rintro e W1 ⟨rfl, g⟩
  go_wp2_with fail
  refine (cK _).mono ?_
  rintro e W2 ⟨v1, rfl, hv1, q2⟩
  replace g := g.trans q2.b
  rcases hv1 with ⟨rfl, rfl⟩ | ⟨a, cap, rfl, h2, h3, h4⟩
  · simp at lk1
  have fl1 := flat_len lk
  have m1 : 0 + lk.length ≤ maxLen := by unfold maxLen; omega
  have m2 : (0 + lk.length) * 48 ≤ 140737488355328 := by omega
  have m3 : w.heap.size ≤ W2.heap.size := g.below.size
  have fl2 := secs_news h4
  obtain ⟨ix, hix⟩ : ∃ i : Nat, n % (lk.length : Int) = (i : Int) := ⟨(n % (lk.length : Int)).toNat, by have := Int.emod_nonneg n (show (lk.length : Int) ≠ 0 by omega); omega⟩
  have hix1 : ix < lk.length := by have := Int.emod_lt_of_pos n (show (0 : Int) < (lk.length : Int) by omega); omega
  have hix2 : (ix : Int) < (lk.length : Int) := by omega
  have hix0 : (0 : Int) ≤ (ix : Int) := Int.natCast_nonneg _
  have hg := List.getElem?_eq_getElem hix1
  have hI := (h4 ix _ hg).1
  have hIall : ∀ s ∈ lk, s.I := fun s hs => by obtain ⟨q, hq⟩ := List.getElem?_of_mem hs; exact (h4 q s hq).1
  generalize lk[ix] = s at *
  obtain ⟨r, h, a0, b0, a1, b1⟩ := s

  have hset := flat_set lk ix 2 ⟨r, h, a0, b0, a1, b1⟩ ⟨r, h, v, b0, a1, b1⟩ (.int .i64 v) hg (by omega) rfl
  have hI' : ∀ s ∈ lk.set ix ⟨r, h, v, b0, a1, b1⟩, s.I := fun s hs => by
    rcases List.mem_or_eq_of_mem_set hs with h | rfl
    · exact hIall s h
    · exact ⟨hI.1, iv, hI.2.2.1, hI.2.2.2.1, hI.2.2.2.2⟩
  have HL : Hid (lk.length = (lk.set ix ⟨r, h, v, b0, a1, b1⟩).length) := Lib.hid (by simp)
  have HSET := Lib.hid hset
  have HIA := Lib.hid hI'
  have flj := flat_get lk ix 2 _ hg (by omega)
  clear hset hI' hIall hI h4
  generalize hl' : lk.set ix ⟨r, h, v, b0, a1, b1⟩ = l' at *
  have hrr : rightS l' = true ∨ rightS l' = false := by cases rightS l' <;> simp
  clear hl' hg
  rcases hrr with hrr | hrr
  · go_wp2_with (at_builtin; refine wpList_append_lies _ rfl _ _ 25 rfl w.heap.size 30 i0 _ 6 48 Try.underlying25 hi0 hz0 hz1 hz2 rfl (by omega) (.slice none 0 0) 0 [] rfl (World.ownsRow_nil _ _ _ _) a lk.length cap (flat lk) rfl fl1 fl2 (flat_one lk) (by omega) m1 m2 m3 W2.heap.size rfl ?_; intro gb cp W3 hown hgrow hat hlt; simp only [Nat.zero_add, List.nil_append] at hown; have hcell := (hown.cellAt (ix * 6 + 2) (by omega)).trans flj; have hfr := hown.frozenAt (ix * 6 + 2); simp only [Sec.cells, List.getElem?_cons_zero, List.getElem?_cons_succ] at hcell hfr; have g3 := g.grownBy hgrow (fun _ h => by cases h); go_wp2_with fail)
    have hst := (hown.stored (ix * 6 + 2) (.int .i64 v)).1
    have hset := HSET.out
    try simp only [Nat.add_zero] at hset
    rw [← hset] at hst
    have HS := secs_own hst HL.out.symm (by omega) HIA.out
    have g4 := g3.setCell (p := ⟨gb, ix * 6 + 2, none⟩) (hown.lt gb rfl).1 (.int .i64 v)
    clear hst hset HSET HL HIA hown hgrow hat hlt hcell hfr g3 flj g fl1 fl2 hix1 hix2 hix0 hix m1 m2 m3
    refine (hR _ l' _ HS).mono ?_
    rintro e W5 ⟨rfl, q5⟩
    replace HS := HS.keepB q5
    replace g4 := g4.trans q5
    clear q5
    go_wp2_with fail
    refine (r3right_any _ l' _ HS).mono ?_
    rintro e W6 ⟨rfl, q6⟩
    replace HS := HS.keepB q6.b
    replace g4 := g4.trans q6.b
    clear q6
    go_wp2_with fail
    refine (r3right_any _ l' _ HS).mono ?_
    rintro e W7 ⟨rfl, q7⟩
    replace HS := HS.keepB q7.b
    replace g4 := g4.trans q7.b
    clear q7
    have hsum := sum_right l' hrr
    go_wp2_with fail
    refine (hH _ l' _ HS hrr).mono ?_
    rintro e W8 ⟨rfl, q8⟩
    replace HS := HS.keepB q8
    replace g4 := g4.trans q8
    clear q8
    go_wp2_with fail
    refine (rheight_any _ l' _ HS).mono ?_
    rintro e W9 ⟨rfl, rfl⟩
    go_wp2
    go_ret
    exact ⟨rfl, g4⟩
  · go_wp2_with (at_builtin; refine wpList_append_lies _ rfl _ _ 25 rfl w.heap.size 30 i0 _ 6 48 Try.underlying25 hi0 hz0 hz1 hz2 rfl (by omega) (.slice none 0 0) 0 [] rfl (World.ownsRow_nil _ _ _ _) a lk.length cap (flat lk) rfl fl1 fl2 (flat_one lk) (by omega) m1 m2 m3 W2.heap.size rfl ?_; intro gb cp W3 hown hgrow hat hlt; simp only [Nat.zero_add, List.nil_append] at hown; have hcell := (hown.cellAt (ix * 6 + 2) (by omega)).trans flj; have hfr := hown.frozenAt (ix * 6 + 2); simp only [Sec.cells, List.getElem?_cons_zero, List.getElem?_cons_succ] at hcell hfr; have g3 := g.grownBy hgrow (fun _ h => by cases h); go_wp2_with fail)
    have hst := (hown.stored (ix * 6 + 2) (.int .i64 v)).1
    have hset := HSET.out
    try simp only [Nat.add_zero] at hset
    rw [← hset] at hst
    have HS := secs_own hst HL.out.symm (by omega) HIA.out
    have g4 := g3.setCell (p := ⟨gb, ix * 6 + 2, none⟩) (hown.lt gb rfl).1 (.int .i64 v)
    clear hst hset HSET HL HIA hown hgrow hat hlt hcell hfr g3 flj g fl1 fl2 hix1 hix2 hix0 hix m1 m2 m3
    refine (hR _ l' _ HS).mono ?_
    rintro e W5 ⟨rfl, q5⟩
    replace HS := HS.keepB q5
    replace g4 := g4.trans q5
    clear q5
    go_wp2_with fail
    refine (r3right_any _ l' _ HS).mono ?_
    rintro e W6 ⟨rfl, q6⟩
    replace HS := HS.keepB q6.b
    replace g4 := g4.trans q6.b
    clear q6
    go_wp2_with fail
    refine (r3right_any _ l' _ HS).mono ?_
    rintro e W7 ⟨rfl, q7⟩
    replace HS := HS.keepB q7.b
    replace g4 := g4.trans q7.b
    clear q7
    go_wp2
    go_ret
    exact ⟨rfl, g4⟩

set_option maxRecDepth 100000 in
set_option maxHeartbeats 16000000 in
theorem bends_3 (hS : SideC) (hR : RightC) (hH : HeightC) (k what v n : Int) (hk : (Lit.int .u8 k).wf = true) (hw : (Lit.int .u8 what).wf = true) (hv : (Lit.int .i64 v).wf = true) (hn : (Lit.int .u8 n).wf = true) (hc : what % 9 = 3) (w : World) :
    Calls Try.prog 4 #[.int .u8 k, .int .u8 what, .int .i64 v, .int .u8 n] w fun e w' => e = .returned (.bool true) ∧ B w w' := by
  obtain ⟨k1, k2⟩ := u8_wf hk
  obtain ⟨w1, w2⟩ := u8_wf hw
  obtain ⟨n1, n2⟩ := u8_wf hn
  have iv := i64_wf hv
  clear hk hw hn hv
  have c0 := known3_any hS hR hH
  have cK := fun w => shape_any k k1 k2 w
  have rK := shape_right (k % 6).toNat
  generalize shapeOf (k % 6).toNat = lk at *
  obtain ⟨lk1, lk4, lok⟩ := right_all rK
  obtain ⟨i0, hi0, hz0, hz1, hz2⟩ := info_parts secInfo
  clear hS
  go_enter Try.func4, Try.ntmps4
  go_wp2_with fail
  refine (c0 _).mono ?_
  rintro e W1 ⟨rfl, g⟩
  go_wp2_with fail
  refine (cK _).mono ?_
  rintro e W2 ⟨v1, rfl, hv1, q2⟩
  replace g := g.trans q2.b
  rcases hv1 with ⟨rfl, rfl⟩ | ⟨a, cap, rfl, h2, h3, h4⟩
  · simp at lk1
  have fl1 := flat_len lk
  have m1 : 0 + lk.length ≤ maxLen := by unfold maxLen; omega
  have m2 : (0 + lk.length) * 48 ≤ 140737488355328 := by omega
  have m3 : w.heap.size ≤ W2.heap.size := g.below.size
  have fl2 := secs_news h4
  obtain ⟨ix, hix⟩ : ∃ i : Nat, n % (lk.length : Int) = (i : Int) := ⟨(n % (lk.length : Int)).toNat, by have := Int.emod_nonneg n (show (lk.length : Int) ≠ 0 by omega); omega⟩
  have hix1 : ix < lk.length := by have := Int.emod_lt_of_pos n (show (0 : Int) < (lk.length : Int) by omega); omega
  have hix2 : (ix : Int) < (lk.length : Int) := by omega
  have hix0 : (0 : Int) ≤ (ix : Int) := Int.natCast_nonneg _
  have hg := List.getElem?_eq_getElem hix1
  have hI := (h4 ix _ hg).1
  have hIall : ∀ s ∈ lk, s.I := fun s hs => by obtain ⟨q, hq⟩ := List.getElem?_of_mem hs; exact (h4 q s hq).1
  generalize lk[ix] = s at *
  obtain ⟨r, h, a0, b0, a1, b1⟩ := s
  obtain ⟨y, ey⟩ : ∃ y, bits .and .i64 v 3 = y := ⟨_, rfl⟩
  obtain ⟨z, ez⟩ : ∃ z, wrap64 (19998 + y) = z := ⟨_, rfl⟩
  have ez2 : IntKind.i64.wrap (19998 + y) = z := by rw [← ez, IntKind.wrap_i64]; unfold wrap64; omega
  have iz : I64 z := by rw [← ez]; exact wrap64_I64 _
  have hset := flat_set lk ix 4 ⟨r, h, a0, b0, a1, b1⟩ ⟨r, h, a0, b0, z, b1⟩ (.int .i64 z) hg (by omega) rfl
  have hI' : ∀ s ∈ lk.set ix ⟨r, h, a0, b0, z, b1⟩, s.I := fun s hs => by
    rcases List.mem_or_eq_of_mem_set hs with h | rfl
    · exact hIall s h
    · exact ⟨hI.1, hI.2.1, hI.2.2.1, iz, hI.2.2.2.2⟩
  have HL : Hid (lk.length = (lk.set ix ⟨r, h, a0, b0, z, b1⟩).length) := Lib.hid (by simp)
  have HSET := Lib.hid hset
  have HIA := Lib.hid hI'
  have flj := flat_get lk ix 4 _ hg (by omega)
  clear hset hI' hIall hI h4
  generalize hl' : lk.set ix ⟨r, h, a0, b0, z, b1⟩ = l' at *
  have hrr : rightS l' = true ∨ rightS l' = false := by cases rightS l' <;> simp
  clear hl' hg
  rcases hrr with hrr | hrr
  · go_wp2_with (at_builtin; refine wpList_append_lies _ rfl _ _ 25 rfl w.heap.size 30 i0 _ 6 48 Try.underlying25 hi0 hz0 hz1 hz2 rfl (by omega) (.slice none 0 0) 0 [] rfl (World.ownsRow_nil _ _ _ _) a lk.length cap (flat lk) rfl fl1 fl2 (flat_one lk) (by omega) m1 m2 m3 W2.heap.size rfl ?_; intro gb cp W3 hown hgrow hat hlt; simp only [Nat.zero_add, List.nil_append] at hown; have hcell := (hown.cellAt (ix * 6 + 4) (by omega)).trans flj; have hfr := hown.frozenAt (ix * 6 + 4); simp only [Sec.cells, List.getElem?_cons_zero, List.getElem?_cons_succ] at hcell hfr; have g3 := g.grownBy hgrow (fun _ h => by cases h); go_wp2_with fail)
    have hst := (hown.stored (ix * 6 + 4) (.int .i64 z)).1
    have hset := HSET.out
    try simp only [Nat.add_zero] at hset
    rw [← hset] at hst
    have HS := secs_own hst HL.out.symm (by omega) HIA.out
    have g4 := g3.setCell (p := ⟨gb, ix * 6 + 4, none⟩) (hown.lt gb rfl).1 (.int .i64 z)
    clear hst hset HSET HL HIA hown hgrow hat hlt hcell hfr g3 flj g fl1 fl2 hix1 hix2 hix0 hix m1 m2 m3
    refine (hR _ l' _ HS).mono ?_
    rintro e W5 ⟨rfl, q5⟩
    replace HS := HS.keepB q5
    replace g4 := g4.trans q5
    clear q5
    go_wp2_with fail
    refine (r3right_any _ l' _ HS).mono ?_
    rintro e W6 ⟨rfl, q6⟩
    replace HS := HS.keepB q6.b
    replace g4 := g4.trans q6.b
    clear q6
    go_wp2_with fail
    refine (r3right_any _ l' _ HS).mono ?_
    rintro e W7 ⟨rfl, q7⟩
    replace HS := HS.keepB q7.b
    replace g4 := g4.trans q7.b
    clear q7
    have hsum := sum_right l' hrr
    go_wp2_with fail
    refine (hH _ l' _ HS hrr).mono ?_
    rintro e W8 ⟨rfl, q8⟩
    replace HS := HS.keepB q8
    replace g4 := g4.trans q8
    clear q8
    go_wp2_with fail
    refine (rheight_any _ l' _ HS).mono ?_
    rintro e W9 ⟨rfl, rfl⟩
    go_wp2
    go_ret
    exact ⟨rfl, g4⟩
  · go_wp2_with (at_builtin; refine wpList_append_lies _ rfl _ _ 25 rfl w.heap.size 30 i0 _ 6 48 Try.underlying25 hi0 hz0 hz1 hz2 rfl (by omega) (.slice none 0 0) 0 [] rfl (World.ownsRow_nil _ _ _ _) a lk.length cap (flat lk) rfl fl1 fl2 (flat_one lk) (by omega) m1 m2 m3 W2.heap.size rfl ?_; intro gb cp W3 hown hgrow hat hlt; simp only [Nat.zero_add, List.nil_append] at hown; have hcell := (hown.cellAt (ix * 6 + 4) (by omega)).trans flj; have hfr := hown.frozenAt (ix * 6 + 4); simp only [Sec.cells, List.getElem?_cons_zero, List.getElem?_cons_succ] at hcell hfr; have g3 := g.grownBy hgrow (fun _ h => by cases h); go_wp2_with fail)
    have hst := (hown.stored (ix * 6 + 4) (.int .i64 z)).1
    have hset := HSET.out
    try simp only [Nat.add_zero] at hset
    rw [← hset] at hst
    have HS := secs_own hst HL.out.symm (by omega) HIA.out
    have g4 := g3.setCell (p := ⟨gb, ix * 6 + 4, none⟩) (hown.lt gb rfl).1 (.int .i64 z)
    clear hst hset HSET HL HIA hown hgrow hat hlt hcell hfr g3 flj g fl1 fl2 hix1 hix2 hix0 hix m1 m2 m3
    refine (hR _ l' _ HS).mono ?_
    rintro e W5 ⟨rfl, q5⟩
    replace HS := HS.keepB q5
    replace g4 := g4.trans q5
    clear q5
    go_wp2_with fail
    refine (r3right_any _ l' _ HS).mono ?_
    rintro e W6 ⟨rfl, q6⟩
    replace HS := HS.keepB q6.b
    replace g4 := g4.trans q6.b
    clear q6
    go_wp2_with fail
    refine (r3right_any _ l' _ HS).mono ?_
    rintro e W7 ⟨rfl, q7⟩
    replace HS := HS.keepB q7.b
    replace g4 := g4.trans q7.b
    clear q7
    go_wp2
    go_ret
    exact ⟨rfl, g4⟩

set_option maxRecDepth 100000 in
set_option maxHeartbeats 16000000 in
theorem bends_4 (hS : SideC) (hR : RightC) (hH : HeightC) (k what v n : Int) (hk : (Lit.int .u8 k).wf = true) (hw : (Lit.int .u8 what).wf = true) (hv : (Lit.int .i64 v).wf = true) (hn : (Lit.int .u8 n).wf = true) (hc : what % 9 = 4) (w : World) :
    Calls Try.prog 4 #[.int .u8 k, .int .u8 what, .int .i64 v, .int .u8 n] w fun e w' => e = .returned (.bool true) ∧ B w w' := by
  obtain ⟨k1, k2⟩ := u8_wf hk
  obtain ⟨w1, w2⟩ := u8_wf hw
  obtain ⟨n1, n2⟩ := u8_wf hn
  have iv := i64_wf hv
  clear hk hw hn hv
  have c0 := known3_any hS hR hH
  have cK := fun w => shape_any k k1 k2 w
  have rK := shape_right (k % 6).toNat
  generalize shapeOf (k % 6).toNat = lk at *
  obtain ⟨lk1, lk4, lok⟩ := right_all rK
  obtain ⟨i0, hi0, hz0, hz1, hz2⟩ := info_parts secInfo
  clear hS
  go_enter Try.func4, Try.ntmps4
  go_wp2_with fail
  refine (c0 _).mono ?_
  rintro e W1 ⟨rfl, g⟩
  go_wp2_with fail
  refine (cK _).mono ?_
  rintro e W2 ⟨v1, rfl, hv1, q2⟩
  replace g := g.trans q2.b
  rcases hv1 with ⟨rfl, rfl⟩ | ⟨a, cap, rfl, h2, h3, h4⟩
  · simp at lk1
  have fl1 := flat_len lk
  have m1 : 0 + lk.length ≤ maxLen := by unfold maxLen; omega
  have m2 : (0 + lk.length) * 48 ≤ 140737488355328 := by omega
  have m3 : w.heap.size ≤ W2.heap.size := g.below.size
  have fl2 := secs_news h4
  obtain ⟨ix, hix⟩ : ∃ i : Nat, n % (lk.length : Int) = (i : Int) := ⟨(n % (lk.length : Int)).toNat, by have := Int.emod_nonneg n (show (lk.length : Int) ≠ 0 by omega); omega⟩
  have hix1 : ix < lk.length := by have := Int.emod_lt_of_pos n (show (0 : Int) < (lk.length : Int) by omega); omega
  have hix2 : (ix : Int) < (lk.length : Int) := by omega
  have hix0 : (0 : Int) ≤ (ix : Int) := Int.natCast_nonneg _
  have hg := List.getElem?_eq_getElem hix1
  have hI := (h4 ix _ hg).1
  have hIall : ∀ s ∈ lk, s.I := fun s hs => by obtain ⟨q, hq⟩ := List.getElem?_of_mem hs; exact (h4 q s hq).1
  generalize lk[ix] = s at *
  obtain ⟨r, h, a0, b0, a1, b1⟩ := s
  obtain ⟨y, ey⟩ : ∃ y, bits .and .i64 v 3 = y := ⟨_, rfl⟩
  have iz : I64 y := by rw [← ey]; exact and_I64 _ _
  have hset := flat_set lk ix 3 ⟨r, h, a0, b0, a1, b1⟩ ⟨r, h, a0, y, a1, b1⟩ (.int .i64 y) hg (by omega) rfl
  have hI' : ∀ s ∈ lk.set ix ⟨r, h, a0, y, a1, b1⟩, s.I := fun s hs => by
    rcases List.mem_or_eq_of_mem_set hs with h | rfl
    · exact hIall s h
    · exact ⟨hI.1, hI.2.1, iz, hI.2.2.2.1, hI.2.2.2.2⟩
  have HL : Hid (lk.length = (lk.set ix ⟨r, h, a0, y, a1, b1⟩).length) := Lib.hid (by simp)
  have HSET := Lib.hid hset
  have HIA := Lib.hid hI'
  have flj := flat_get lk ix 3 _ hg (by omega)
  clear hset hI' hIall hI h4
  generalize hl' : lk.set ix ⟨r, h, a0, y, a1, b1⟩ = l' at *
  have hrr : rightS l' = true ∨ rightS l' = false := by cases rightS l' <;> simp
  clear hl' hg
  rcases hrr with hrr | hrr
  · go_wp2_with (at_builtin; refine wpList_append_lies _ rfl _ _ 25 rfl w.heap.size 30 i0 _ 6 48 Try.underlying25 hi0 hz0 hz1 hz2 rfl (by omega) (.slice none 0 0) 0 [] rfl (World.ownsRow_nil _ _ _ _) a lk.length cap (flat lk) rfl fl1 fl2 (flat_one lk) (by omega) m1 m2 m3 W2.heap.size rfl ?_; intro gb cp W3 hown hgrow hat hlt; simp only [Nat.zero_add, List.nil_append] at hown; have hcell := (hown.cellAt (ix * 6 + 3) (by omega)).trans flj; have hfr := hown.frozenAt (ix * 6 + 3); simp only [Sec.cells, List.getElem?_cons_zero, List.getElem?_cons_succ] at hcell hfr; have g3 := g.grownBy hgrow (fun _ h => by cases h); go_wp2_with fail)
    have hst := (hown.stored (ix * 6 + 3) (.int .i64 y)).1
    have hset := HSET.out
    try simp only [Nat.add_zero] at hset
    rw [← hset] at hst
    have HS := secs_own hst HL.out.symm (by omega) HIA.out
    have g4 := g3.setCell (p := ⟨gb, ix * 6 + 3, none⟩) (hown.lt gb rfl).1 (.int .i64 y)
    clear hst hset HSET HL HIA hown hgrow hat hlt hcell hfr g3 flj g fl1 fl2 hix1 hix2 hix0 hix m1 m2 m3
    refine (hR _ l' _ HS).mono ?_
    rintro e W5 ⟨rfl, q5⟩
    replace HS := HS.keepB q5
    replace g4 := g4.trans q5
    clear q5
    go_wp2_with fail
    refine (r3right_any _ l' _ HS).mono ?_
    rintro e W6 ⟨rfl, q6⟩
    replace HS := HS.keepB q6.b
    replace g4 := g4.trans q6.b
    clear q6
    go_wp2_with fail
    refine (r3right_any _ l' _ HS).mono ?_
    rintro e W7 ⟨rfl, q7⟩
    replace HS := HS.keepB q7.b
    replace g4 := g4.trans q7.b
    clear q7
    have hsum := sum_right l' hrr
    go_wp2_with fail
    refine (hH _ l' _ HS hrr).mono ?_
    rintro e W8 ⟨rfl, q8⟩
    replace HS := HS.keepB q8
    replace g4 := g4.trans q8
    clear q8
    go_wp2_with fail
    refine (rheight_any _ l' _ HS).mono ?_
    rintro e W9 ⟨rfl, rfl⟩
    go_wp2
    go_ret
    exact ⟨rfl, g4⟩
  · go_wp2_with (at_builtin; refine wpList_append_lies _ rfl _ _ 25 rfl w.heap.size 30 i0 _ 6 48 Try.underlying25 hi0 hz0 hz1 hz2 rfl (by omega) (.slice none 0 0) 0 [] rfl (World.ownsRow_nil _ _ _ _) a lk.length cap (flat lk) rfl fl1 fl2 (flat_one lk) (by omega) m1 m2 m3 W2.heap.size rfl ?_; intro gb cp W3 hown hgrow hat hlt; simp only [Nat.zero_add, List.nil_append] at hown; have hcell := (hown.cellAt (ix * 6 + 3) (by omega)).trans flj; have hfr := hown.frozenAt (ix * 6 + 3); simp only [Sec.cells, List.getElem?_cons_zero, List.getElem?_cons_succ] at hcell hfr; have g3 := g.grownBy hgrow (fun _ h => by cases h); go_wp2_with fail)
    have hst := (hown.stored (ix * 6 + 3) (.int .i64 y)).1
    have hset := HSET.out
    try simp only [Nat.add_zero] at hset
    rw [← hset] at hst
    have HS := secs_own hst HL.out.symm (by omega) HIA.out
    have g4 := g3.setCell (p := ⟨gb, ix * 6 + 3, none⟩) (hown.lt gb rfl).1 (.int .i64 y)
    clear hst hset HSET HL HIA hown hgrow hat hlt hcell hfr g3 flj g fl1 fl2 hix1 hix2 hix0 hix m1 m2 m3
    refine (hR _ l' _ HS).mono ?_
    rintro e W5 ⟨rfl, q5⟩
    replace HS := HS.keepB q5
    replace g4 := g4.trans q5
    clear q5
    go_wp2_with fail
    refine (r3right_any _ l' _ HS).mono ?_
    rintro e W6 ⟨rfl, q6⟩
    replace HS := HS.keepB q6.b
    replace g4 := g4.trans q6.b
    clear q6
    go_wp2_with fail
    refine (r3right_any _ l' _ HS).mono ?_
    rintro e W7 ⟨rfl, q7⟩
    replace HS := HS.keepB q7.b
    replace g4 := g4.trans q7.b
    clear q7
    go_wp2
    go_ret
    exact ⟨rfl, g4⟩

set_option maxRecDepth 100000 in
set_option maxHeartbeats 16000000 in
theorem bends_5 (hS : SideC) (hR : RightC) (hH : HeightC) (k what v n : Int) (hk : (Lit.int .u8 k).wf = true) (hw : (Lit.int .u8 what).wf = true) (hv : (Lit.int .i64 v).wf = true) (hn : (Lit.int .u8 n).wf = true) (hc : what % 9 = 5) (w : World) :
    Calls Try.prog 4 #[.int .u8 k, .int .u8 what, .int .i64 v, .int .u8 n] w fun e w' => e = .returned (.bool true) ∧ B w w' := by
  obtain ⟨k1, k2⟩ := u8_wf hk
  obtain ⟨w1, w2⟩ := u8_wf hw
  obtain ⟨n1, n2⟩ := u8_wf hn
  have iv := i64_wf hv
  clear hk hw hn hv
  have c0 := known3_any hS hR hH
  have cK := fun w => shape_any k k1 k2 w
  have rK := shape_right (k % 6).toNat
  generalize shapeOf (k % 6).toNat = lk at *
  obtain ⟨lk1, lk4, lok⟩ := right_all rK
  obtain ⟨i0, hi0, hz0, hz1, hz2⟩ := info_parts secInfo
  clear hS
  go_enter Try.func4, Try.ntmps4
  go_wp2_with fail
  refine (c0 _).mono ?_
  rintro e W1 ⟨rfl, g⟩
  go_wp2_with fail
  refine (cK _).mono ?_
  rintro e W2 ⟨v1, rfl, hv1, q2⟩
  replace g := g.trans q2.b
  rcases hv1 with ⟨rfl, rfl⟩ | ⟨a, cap, rfl, h2, h3, h4⟩
  · simp at lk1
  have fl1 := flat_len lk
  have m1 : 0 + lk.length ≤ maxLen := by unfold maxLen; omega
  have m2 : (0 + lk.length) * 48 ≤ 140737488355328 := by omega
  have m3 : w.heap.size ≤ W2.heap.size := g.below.size
  have fl2 := secs_news h4
  obtain ⟨ix, hix⟩ : ∃ i : Nat, n % (lk.length : Int) = (i : Int) := ⟨(n % (lk.length : Int)).toNat, by have := Int.emod_nonneg n (show (lk.length : Int) ≠ 0 by omega); omega⟩
  have hix1 : ix < lk.length := by have := Int.emod_lt_of_pos n (show (0 : Int) < (lk.length : Int) by omega); omega
  have hix2 : (ix : Int) < (lk.length : Int) := by omega
  have hix0 : (0 : Int) ≤ (ix : Int) := Int.natCast_nonneg _
  have hg := List.getElem?_eq_getElem hix1
  have hI := (h4 ix _ hg).1
  have hIall : ∀ s ∈ lk, s.I := fun s hs => by obtain ⟨q, hq⟩ := List.getElem?_of_mem hs; exact (h4 q s hq).1
  generalize lk[ix] = s at *
  obtain ⟨r, h, a0, b0, a1, b1⟩ := s
  obtain ⟨y, ey⟩ : ∃ y, bits .and .i64 v 3 = y := ⟨_, rfl⟩
  obtain ⟨z, ez⟩ : ∃ z, wrap64 (19998 + y) = z := ⟨_, rfl⟩
  have ez2 : IntKind.i64.wrap (19998 + y) = z := by rw [← ez, IntKind.wrap_i64]; unfold wrap64; omega
  have iz : I64 z := by rw [← ez]; exact wrap64_I64 _
  have hset := flat_set lk ix 5 ⟨r, h, a0, b0, a1, b1⟩ ⟨r, h, a0, b0, a1, z⟩ (.int .i64 z) hg (by omega) rfl
  have hI' : ∀ s ∈ lk.set ix ⟨r, h, a0, b0, a1, z⟩, s.I := fun s hs => by
    rcases List.mem_or_eq_of_mem_set hs with h | rfl
    · exact hIall s h
    · exact ⟨hI.1, hI.2.1, hI.2.2.1, hI.2.2.2.1, iz⟩
  have HL : Hid (lk.length = (lk.set ix ⟨r, h, a0, b0, a1, z⟩).length) := Lib.hid (by simp)
  have HSET := Lib.hid hset
  have HIA := Lib.hid hI'
  have flj := flat_get lk ix 5 _ hg (by omega)
  clear hset hI' hIall hI h4
  generalize hl' : lk.set ix ⟨r, h, a0, b0, a1, z⟩ = l' at *
  have hrr : rightS l' = true ∨ rightS l' = false := by cases rightS l' <;> simp
  clear hl' hg
  rcases hrr with hrr | hrr
  · go_wp2_with (at_builtin; refine wpList_append_lies _ rfl _ _ 25 rfl w.heap.size 30 i0 _ 6 48 Try.underlying25 hi0 hz0 hz1 hz2 rfl (by omega) (.slice none 0 0) 0 [] rfl (World.ownsRow_nil _ _ _ _) a lk.length cap (flat lk) rfl fl1 fl2 (flat_one lk) (by omega) m1 m2 m3 W2.heap.size rfl ?_; intro gb cp W3 hown hgrow hat hlt; simp only [Nat.zero_add, List.nil_append] at hown; have hcell := (hown.cellAt (ix * 6 + 5) (by omega)).trans flj; have hfr := hown.frozenAt (ix * 6 + 5); simp only [Sec.cells, List.getElem?_cons_zero, List.getElem?_cons_succ] at hcell hfr; have g3 := g.grownBy hgrow (fun _ h => by cases h); go_wp2_with fail)
    have hst := (hown.stored (ix * 6 + 5) (.int .i64 z)).1
    have hset := HSET.out
    try simp only [Nat.add_zero] at hset
    rw [← hset] at hst
    have HS := secs_own hst HL.out.symm (by omega) HIA.out
    have g4 := g3.setCell (p := ⟨gb, ix * 6 + 5, none⟩) (hown.lt gb rfl).1 (.int .i64 z)
    clear hst hset HSET HL HIA hown hgrow hat hlt hcell hfr g3 flj g fl1 fl2 hix1 hix2 hix0 hix m1 m2 m3
    refine (hR _ l' _ HS).mono ?_
    rintro e W5 ⟨rfl, q5⟩
    replace HS := HS.keepB q5
    replace g4 := g4.trans q5
    clear q5
    go_wp2_with fail
    refine (r3right_any _ l' _ HS).mono ?_
    rintro e W6 ⟨rfl, q6⟩
    replace HS := HS.keepB q6.b
    replace g4 := g4.trans q6.b
    clear q6
    go_wp2_with fail
    refine (r3right_any _ l' _ HS).mono ?_
    rintro e W7 ⟨rfl, q7⟩
    replace HS := HS.keepB q7.b
    replace g4 := g4.trans q7.b
    clear q7
    have hsum := sum_right l' hrr
    go_wp2_with fail
    refine (hH _ l' _ HS hrr).mono ?_
    rintro e W8 ⟨rfl, q8⟩
    replace HS := HS.keepB q8
    replace g4 := g4.trans q8
    clear q8
    go_wp2_with fail
    refine (rheight_any _ l' _ HS).mono ?_
    rintro e W9 ⟨rfl, rfl⟩
    go_wp2
    go_ret
    exact ⟨rfl, g4⟩
  · go_wp2_with (at_builtin; refine wpList_append_lies _ rfl _ _ 25 rfl w.heap.size 30 i0 _ 6 48 Try.underlying25 hi0 hz0 hz1 hz2 rfl (by omega) (.slice none 0 0) 0 [] rfl (World.ownsRow_nil _ _ _ _) a lk.length cap (flat lk) rfl fl1 fl2 (flat_one lk) (by omega) m1 m2 m3 W2.heap.size rfl ?_; intro gb cp W3 hown hgrow hat hlt; simp only [Nat.zero_add, List.nil_append] at hown; have hcell := (hown.cellAt (ix * 6 + 5) (by omega)).trans flj; have hfr := hown.frozenAt (ix * 6 + 5); simp only [Sec.cells, List.getElem?_cons_zero, List.getElem?_cons_succ] at hcell hfr; have g3 := g.grownBy hgrow (fun _ h => by cases h); go_wp2_with fail)
    have hst := (hown.stored (ix * 6 + 5) (.int .i64 z)).1
    have hset := HSET.out
    try simp only [Nat.add_zero] at hset
    rw [← hset] at hst
    have HS := secs_own hst HL.out.symm (by omega) HIA.out
    have g4 := g3.setCell (p := ⟨gb, ix * 6 + 5, none⟩) (hown.lt gb rfl).1 (.int .i64 z)
    clear hst hset HSET HL HIA hown hgrow hat hlt hcell hfr g3 flj g fl1 fl2 hix1 hix2 hix0 hix m1 m2 m3
    refine (hR _ l' _ HS).mono ?_
    rintro e W5 ⟨rfl, q5⟩
    replace HS := HS.keepB q5
    replace g4 := g4.trans q5
    clear q5
    go_wp2_with fail
    refine (r3right_any _ l' _ HS).mono ?_
    rintro e W6 ⟨rfl, q6⟩
    replace HS := HS.keepB q6.b
    replace g4 := g4.trans q6.b
    clear q6
    go_wp2_with fail
    refine (r3right_any _ l' _ HS).mono ?_
    rintro e W7 ⟨rfl, q7⟩
    replace HS := HS.keepB q7.b
    replace g4 := g4.trans q7.b
    clear q7
    go_wp2
    go_ret
    exact ⟨rfl, g4⟩

set_option maxRecDepth 100000 in
set_option maxHeartbeats 16000000 in
theorem bends_7 (hS : SideC) (hR : RightC) (hH : HeightC) (k what v n : Int) (hk : (Lit.int .u8 k).wf = true) (hw : (Lit.int .u8 what).wf = true) (hv : (Lit.int .i64 v).wf = true) (hn : (Lit.int .u8 n).wf = true) (hc : what % 9 = 7) (w : World) :
    Calls Try.prog 4 #[.int .u8 k, .int .u8 what, .int .i64 v, .int .u8 n] w fun e w' => e = .returned (.bool true) ∧ B w w' := by
  obtain ⟨k1, k2⟩ := u8_wf hk
  obtain ⟨w1, w2⟩ := u8_wf hw
  obtain ⟨n1, n2⟩ := u8_wf hn
  have iv := i64_wf hv
  clear hk hw hn hv
  have c0 := known3_any hS hR hH
  have cK := fun w => shape_any k k1 k2 w
  have rK := shape_right (k % 6).toNat
  generalize shapeOf (k % 6).toNat = lk at *
  obtain ⟨lk1, lk4, lok⟩ := right_all rK
  obtain ⟨i0, hi0, hz0, hz1, hz2⟩ := info_parts secInfo
  clear hS
  go_enter Try.func4, Try.ntmps4
  go_wp2_with fail
  refine (c0 _).mono ?_
  rintro e W1 ⟨rfl, g⟩
  go_wp2_with fail
  refine (cK _).mono ?_
  rintro e W2 ⟨v1, rfl, hv1, q2⟩
  replace g := g.trans q2.b
  rcases hv1 with ⟨rfl, rfl⟩ | ⟨a, cap, rfl, h2, h3, h4⟩
  · simp at lk1
  have fl1 := flat_len lk
  have m1 : 0 + lk.length ≤ maxLen := by unfold maxLen; omega
  have m2 : (0 + lk.length) * 48 ≤ 140737488355328 := by omega
  have m3 : w.heap.size ≤ W2.heap.size := g.below.size
  have fl2 := secs_news h4
  obtain ⟨ix, hix⟩ : ∃ i : Nat, n % (lk.length : Int) = (i : Int) := ⟨(n % (lk.length : Int)).toNat, by have := Int.emod_nonneg n (show (lk.length : Int) ≠ 0 by omega); omega⟩
  have hix1 : ix < lk.length := by have := Int.emod_lt_of_pos n (show (0 : Int) < (lk.length : Int) by omega); omega
  have hix2 : (ix : Int) < (lk.length : Int) := by omega
  have hix0 : (0 : Int) ≤ (ix : Int) := Int.natCast_nonneg _
  have hg := List.getElem?_eq_getElem hix1
  have hI := (h4 ix _ hg).1
  have hIall : ∀ s ∈ lk, s.I := fun s hs => by obtain ⟨q, hq⟩ := List.getElem?_of_mem hs; exact (h4 q s hq).1
  generalize lk[ix] = s at *
  obtain ⟨r, h, a0, b0, a1, b1⟩ := s
  obtain ⟨y, ey⟩ : ∃ y, bits .and .i64 v 1 = y := ⟨_, rfl⟩
  have iz : I64 y := by rw [← ey]; exact and_I64 _ _
  have hset := flat_set lk ix 4 ⟨r, h, a0, b0, a1, b1⟩ ⟨r, h, a0, b0, y, b1⟩ (.int .i64 y) hg (by omega) rfl
  have hI' : ∀ s ∈ lk.set ix ⟨r, h, a0, b0, y, b1⟩, s.I := fun s hs => by
    rcases List.mem_or_eq_of_mem_set hs with h | rfl
    · exact hIall s h
    · exact ⟨hI.1, hI.2.1, hI.2.2.1, iz, hI.2.2.2.2⟩
  have HL : Hid (lk.length = (lk.set ix ⟨r, h, a0, b0, y, b1⟩).length) := Lib.hid (by simp)
  have HSET := Lib.hid hset
  have HIA := Lib.hid hI'
  have flj := flat_get lk ix 4 _ hg (by omega)
  clear hset hI' hIall hI h4
  generalize hl' : lk.set ix ⟨r, h, a0, b0, y, b1⟩ = l' at *
  have hrr : rightS l' = true ∨ rightS l' = false := by cases rightS l' <;> simp
  clear hl' hg
  rcases hrr with hrr | hrr
  · go_wp2_with (at_builtin; refine wpList_append_lies _ rfl _ _ 25 rfl w.heap.size 30 i0 _ 6 48 Try.underlying25 hi0 hz0 hz1 hz2 rfl (by omega) (.slice none 0 0) 0 [] rfl (World.ownsRow_nil _ _ _ _) a lk.length cap (flat lk) rfl fl1 fl2 (flat_one lk) (by omega) m1 m2 m3 W2.heap.size rfl ?_; intro gb cp W3 hown hgrow hat hlt; simp only [Nat.zero_add, List.nil_append] at hown; have hcell := (hown.cellAt (ix * 6 + 4) (by omega)).trans flj; have hfr := hown.frozenAt (ix * 6 + 4); simp only [Sec.cells, List.getElem?_cons_zero, List.getElem?_cons_succ] at hcell hfr; have g3 := g.grownBy hgrow (fun _ h => by cases h); go_wp2_with fail)
    have hst := (hown.stored (ix * 6 + 4) (.int .i64 y)).1
    have hset := HSET.out
    try simp only [Nat.add_zero] at hset
    rw [← hset] at hst
    have HS := secs_own hst HL.out.symm (by omega) HIA.out
    have g4 := g3.setCell (p := ⟨gb, ix * 6 + 4, none⟩) (hown.lt gb rfl).1 (.int .i64 y)
    clear hst hset HSET HL HIA hown hgrow hat hlt hcell hfr g3 flj g fl1 fl2 hix1 hix2 hix0 hix m1 m2 m3
    refine (hR _ l' _ HS).mono ?_
    rintro e W5 ⟨rfl, q5⟩
    replace HS := HS.keepB q5
    replace g4 := g4.trans q5
    clear q5
    go_wp2_with fail
    refine (r3right_any _ l' _ HS).mono ?_
    rintro e W6 ⟨rfl, q6⟩
    replace HS := HS.keepB q6.b
    replace g4 := g4.trans q6.b
    clear q6
    go_wp2_with fail
    refine (r3right_any _ l' _ HS).mono ?_
    rintro e W7 ⟨rfl, q7⟩
    replace HS := HS.keepB q7.b
    replace g4 := g4.trans q7.b
    clear q7
    have hsum := sum_right l' hrr
    go_wp2_with fail
    refine (hH _ l' _ HS hrr).mono ?_
    rintro e W8 ⟨rfl, q8⟩
    replace HS := HS.keepB q8
    replace g4 := g4.trans q8
    clear q8
    go_wp2_with fail
    refine (rheight_any _ l' _ HS).mono ?_
    rintro e W9 ⟨rfl, rfl⟩
    go_wp2
    go_ret
    exact ⟨rfl, g4⟩
  · go_wp2_with (at_builtin; refine wpList_append_lies _ rfl _ _ 25 rfl w.heap.size 30 i0 _ 6 48 Try.underlying25 hi0 hz0 hz1 hz2 rfl (by omega) (.slice none 0 0) 0 [] rfl (World.ownsRow_nil _ _ _ _) a lk.length cap (flat lk) rfl fl1 fl2 (flat_one lk) (by omega) m1 m2 m3 W2.heap.size rfl ?_; intro gb cp W3 hown hgrow hat hlt; simp only [Nat.zero_add, List.nil_append] at hown; have hcell := (hown.cellAt (ix * 6 + 4) (by omega)).trans flj; have hfr := hown.frozenAt (ix * 6 + 4); simp only [Sec.cells, List.getElem?_cons_zero, List.getElem?_cons_succ] at hcell hfr; have g3 := g.grownBy hgrow (fun _ h => by cases h); go_wp2_with fail)
    have hst := (hown.stored (ix * 6 + 4) (.int .i64 y)).1
    have hset := HSET.out
    try simp only [Nat.add_zero] at hset
    rw [← hset] at hst
    have HS := secs_own hst HL.out.symm (by omega) HIA.out
    have g4 := g3.setCell (p := ⟨gb, ix * 6 + 4, none⟩) (hown.lt gb rfl).1 (.int .i64 y)
    clear hst hset HSET HL HIA hown hgrow hat hlt hcell hfr g3 flj g fl1 fl2 hix1 hix2 hix0 hix m1 m2 m3
    refine (hR _ l' _ HS).mono ?_
    rintro e W5 ⟨rfl, q5⟩
    replace HS := HS.keepB q5
    replace g4 := g4.trans q5
    clear q5
    go_wp2_with fail
    refine (r3right_any _ l' _ HS).mono ?_
    rintro e W6 ⟨rfl, q6⟩
    replace HS := HS.keepB q6.b
    replace g4 := g4.trans q6.b
    clear q6
    go_wp2_with fail
    refine (r3right_any _ l' _ HS).mono ?_
    rintro e W7 ⟨rfl, q7⟩
    replace HS := HS.keepB q7.b
    replace g4 := g4.trans q7.b
    clear q7
    go_wp2
    go_ret
    exact ⟨rfl, g4⟩

set_option maxRecDepth 100000 in
set_option maxHeartbeats 16000000 in
theorem bends_8 (hS : SideC) (hR : RightC) (hH : HeightC) (k what v n : Int) (hk : (Lit.int .u8 k).wf = true) (hw : (Lit.int .u8 what).wf = true) (hv : (Lit.int .i64 v).wf = true) (hn : (Lit.int .u8 n).wf = true) (hc : what % 9 = 8) (w : World) :
    Calls Try.prog 4 #[.int .u8 k, .int .u8 what, .int .i64 v, .int .u8 n] w fun e w' => e = .returned (.bool true) ∧ B w w' := by
  obtain ⟨k1, k2⟩ := u8_wf hk
  obtain ⟨w1, w2⟩ := u8_wf hw
  obtain ⟨n1, n2⟩ := u8_wf hn
  have iv := i64_wf hv
  clear hk hw hn hv
  have c0 := known3_any hS hR hH
  have cK := fun w => shape_any k k1 k2 w
  have rK := shape_right (k % 6).toNat
  generalize shapeOf (k % 6).toNat = lk at *
  obtain ⟨lk1, lk4, lok⟩ := right_all rK
  obtain ⟨i0, hi0, hz0, hz1, hz2⟩ := info_parts secInfo
  clear hS
  go_enter Try.func4, Try.ntmps4
  go_wp2_with fail
  refine (c0 _).mono ?_
  rintro e W1 ⟨rfl, g⟩
  go_wp2_with fail
  refine (cK _).mono ?_
  rintro e W2 ⟨v1, rfl, hv1, q2⟩
  replace g := g.trans q2.b
  rcases hv1 with ⟨rfl, rfl⟩ | ⟨a, cap, rfl, h2, h3, h4⟩
  · simp at lk1
  have fl1 := flat_len lk
  have m1 : 0 + lk.length ≤ maxLen := by unfold maxLen; omega
  have m2 : (0 + lk.length) * 48 ≤ 140737488355328 := by omega
  have m3 : w.heap.size ≤ W2.heap.size := g.below.size
  have fl2 := secs_news h4
  obtain ⟨ix, hix⟩ : ∃ i : Nat, n % (lk.length : Int) = (i : Int) := ⟨(n % (lk.length : Int)).toNat, by have := Int.emod_nonneg n (show (lk.length : Int) ≠ 0 by omega); omega⟩
  have hix1 : ix < lk.length := by have := Int.emod_lt_of_pos n (show (0 : Int) < (lk.length : Int) by omega); omega
  have hix2 : (ix : Int) < (lk.length : Int) := by omega
  have hix0 : (0 : Int) ≤ (ix : Int) := Int.natCast_nonneg _
  have hg := List.getElem?_eq_getElem hix1
  have hI := (h4 ix _ hg).1
  have hIall : ∀ s ∈ lk, s.I := fun s hs => by obtain ⟨q, hq⟩ := List.getElem?_of_mem hs; exact (h4 q s hq).1
  generalize lk[ix] = s at *
  obtain ⟨r, h, a0, b0, a1, b1⟩ := s

  have hset := flat_set lk ix 0 ⟨r, h, a0, b0, a1, b1⟩ ⟨!r, h, a0, b0, a1, b1⟩ (.bool (!r)) hg (by omega) rfl
  have hI' : ∀ s ∈ lk.set ix ⟨!r, h, a0, b0, a1, b1⟩, s.I := fun s hs => by
    rcases List.mem_or_eq_of_mem_set hs with h | rfl
    · exact hIall s h
    · exact ⟨hI.1, hI.2.1, hI.2.2.1, hI.2.2.2.1, hI.2.2.2.2⟩
  have HL : Hid (lk.length = (lk.set ix ⟨!r, h, a0, b0, a1, b1⟩).length) := Lib.hid (by simp)
  have HSET := Lib.hid hset
  have HIA := Lib.hid hI'
  have flj := flat_get lk ix 0 _ hg (by omega)
  clear hset hI' hIall hI h4
  generalize hl' : lk.set ix ⟨!r, h, a0, b0, a1, b1⟩ = l' at *
  have hrr : rightS l' = true ∨ rightS l' = false := by cases rightS l' <;> simp
  clear hl' hg
  rcases hrr with hrr | hrr
  · go_wp2_with (at_builtin; refine wpList_append_lies _ rfl _ _ 25 rfl w.heap.size 30 i0 _ 6 48 Try.underlying25 hi0 hz0 hz1 hz2 rfl (by omega) (.slice none 0 0) 0 [] rfl (World.ownsRow_nil _ _ _ _) a lk.length cap (flat lk) rfl fl1 fl2 (flat_one lk) (by omega) m1 m2 m3 W2.heap.size rfl ?_; intro gb cp W3 hown hgrow hat hlt; simp only [Nat.zero_add, List.nil_append] at hown; have hcell := (hown.cellAt (ix * 6 + 0) (by omega)).trans flj; have hfr := hown.frozenAt (ix * 6 + 0); simp only [Sec.cells, List.getElem?_cons_zero, Nat.add_zero] at hcell hfr; have g3 := g.grownBy hgrow (fun _ h => by cases h); go_wp2_with fail)
    have hst := (hown.stored (ix * 6) (.bool (!r))).1
    have hset := HSET.out
    try simp only [Nat.add_zero] at hset
    rw [← hset] at hst
    have HS := secs_own hst HL.out.symm (by omega) HIA.out
    have g4 := g3.setCell (p := ⟨gb, ix * 6, none⟩) (hown.lt gb rfl).1 (.bool (!r))
    clear hst hset HSET HL HIA hown hgrow hat hlt hcell hfr g3 flj g fl1 fl2 hix1 hix2 hix0 hix m1 m2 m3
    refine (hR _ l' _ HS).mono ?_
    rintro e W5 ⟨rfl, q5⟩
    replace HS := HS.keepB q5
    replace g4 := g4.trans q5
    clear q5
    go_wp2_with fail
    refine (r3right_any _ l' _ HS).mono ?_
    rintro e W6 ⟨rfl, q6⟩
    replace HS := HS.keepB q6.b
    replace g4 := g4.trans q6.b
    clear q6
    go_wp2_with fail
    refine (r3right_any _ l' _ HS).mono ?_
    rintro e W7 ⟨rfl, q7⟩
    replace HS := HS.keepB q7.b
    replace g4 := g4.trans q7.b
    clear q7
    have hsum := sum_right l' hrr
    go_wp2_with fail
    refine (hH _ l' _ HS hrr).mono ?_
    rintro e W8 ⟨rfl, q8⟩
    replace HS := HS.keepB q8
    replace g4 := g4.trans q8
    clear q8
    go_wp2_with fail
    refine (rheight_any _ l' _ HS).mono ?_
    rintro e W9 ⟨rfl, rfl⟩
    go_wp2
    go_ret
    exact ⟨rfl, g4⟩
  · go_wp2_with (at_builtin; refine wpList_append_lies _ rfl _ _ 25 rfl w.heap.size 30 i0 _ 6 48 Try.underlying25 hi0 hz0 hz1 hz2 rfl (by omega) (.slice none 0 0) 0 [] rfl (World.ownsRow_nil _ _ _ _) a lk.length cap (flat lk) rfl fl1 fl2 (flat_one lk) (by omega) m1 m2 m3 W2.heap.size rfl ?_; intro gb cp W3 hown hgrow hat hlt; simp only [Nat.zero_add, List.nil_append] at hown; have hcell := (hown.cellAt (ix * 6 + 0) (by omega)).trans flj; have hfr := hown.frozenAt (ix * 6 + 0); simp only [Sec.cells, List.getElem?_cons_zero, Nat.add_zero] at hcell hfr; have g3 := g.grownBy hgrow (fun _ h => by cases h); go_wp2_with fail)
    have hst := (hown.stored (ix * 6) (.bool (!r))).1
    have hset := HSET.out
    try simp only [Nat.add_zero] at hset
    rw [← hset] at hst
    have HS := secs_own hst HL.out.symm (by omega) HIA.out
    have g4 := g3.setCell (p := ⟨gb, ix * 6, none⟩) (hown.lt gb rfl).1 (.bool (!r))
    clear hst hset HSET HL HIA hown hgrow hat hlt hcell hfr g3 flj g fl1 fl2 hix1 hix2 hix0 hix m1 m2 m3
    refine (hR _ l' _ HS).mono ?_
    rintro e W5 ⟨rfl, q5⟩
    replace HS := HS.keepB q5
    replace g4 := g4.trans q5
    clear q5
    go_wp2_with fail
    refine (r3right_any _ l' _ HS).mono ?_
    rintro e W6 ⟨rfl, q6⟩
    replace HS := HS.keepB q6.b
    replace g4 := g4.trans q6.b
    clear q6
    go_wp2_with fail
    refine (r3right_any _ l' _ HS).mono ?_
    rintro e W7 ⟨rfl, q7⟩
    replace HS := HS.keepB q7.b
    replace g4 := g4.trans q7.b
    clear q7
    go_wp2
    go_ret
    exact ⟨rfl, g4⟩

/-- How many elements a slice has. -/
def sliceLen : Value → Nat
  | .slice _ n _ => n
  | _ => 0
theorem news_plain {w : World} {cs : Array Value} {t : TypeId} {H : Nat} (hH : w.heap.size = H) : ∀ j u, cs.toList[j]? = some u → (w.alloc (.cells cs t)).cell? ((⟨H, 0, none⟩ : Addr).add j) = some u := by
  intro j u h
  rw [add0]
  subst hH
  rw [World.cell?_alloc_new]
  simpa using h

set_option maxRecDepth 100000 in
set_option maxHeartbeats 16000000 in
theorem bends_6 (hS : SideC) (hR : RightC) (hH : HeightC) (k what v n : Int) (hk : (Lit.int .u8 k).wf = true) (hw : (Lit.int .u8 what).wf = true) (hv : (Lit.int .i64 v).wf = true) (hn : (Lit.int .u8 n).wf = true) (hc : what % 9 = 6) (w : World) :
    Calls Try.prog 4 #[.int .u8 k, .int .u8 what, .int .i64 v, .int .u8 n] w fun e w' => e = .returned (.bool true) ∧ B w w' := by
  obtain ⟨k1, k2⟩ := u8_wf hk
  obtain ⟨w1, w2⟩ := u8_wf hw
  obtain ⟨n1, n2⟩ := u8_wf hn
  have iv := i64_wf hv
  clear hk hw hn hv
  have c0 := known3_any hS hR hH
  have cK := fun w => shape_any k k1 k2 w
  have rK := shape_right (k % 6).toNat
  generalize shapeOf (k % 6).toNat = lk at *
  obtain ⟨lk1, lk4, lok⟩ := right_all rK
  obtain ⟨i0, hi0, hz0, hz1, hz2⟩ := info_parts secInfo
  clear hS
  go_enter Try.func4, Try.ntmps4
  go_wp2_with fail
  refine (c0 _).mono ?_
  rintro e W1 ⟨rfl, g⟩
  go_wp2_with fail
  refine (cK _).mono ?_
  rintro e W2 ⟨v1, rfl, hv1, q2⟩
  replace g := g.trans q2.b
  rcases hv1 with ⟨rfl, rfl⟩ | ⟨a, cap, rfl, h2, h3, h4⟩
  · simp at lk1
  have fl1 := flat_len lk
  have m1 : 0 + lk.length ≤ maxLen := by unfold maxLen; omega
  have m2 : (0 + lk.length) * 48 ≤ 140737488355328 := by omega
  have m3 : w.heap.size ≤ W2.heap.size := g.below.size
  have fl2 := secs_news h4
  have hIall : ∀ s ∈ lk, s.I := fun s hs => by obtain ⟨q, hq⟩ := List.getElem?_of_mem hs; exact (h4 q s hq).1
  have HIA := Lib.hid hIall
  clear hIall h4
  obtain ⟨m, em⟩ : ∃ m, n % 6 = m := ⟨_, rfl⟩
  have m01 : 0 ≤ m := by omega
  have m02 : m ≤ 5 := by omega
  obtain ⟨t, et⟩ : ∃ t, m + 1 = t := ⟨_, rfl⟩
  have HC := Lib.hid hc
  go_wp2_with (at_builtin; refine wpList_append_lies _ rfl _ _ 25 rfl w.heap.size 30 i0 _ 6 48 Try.underlying25 hi0 hz0 hz1 hz2 rfl (by omega) (.slice none 0 0) 0 [] rfl (World.ownsRow_nil _ _ _ _) a lk.length cap (flat lk) rfl fl1 fl2 (flat_one lk) (by omega) m1 m2 m3 W2.heap.size rfl ?_; intro gb cp W3 hown hgrow hat hlt; simp only [Nat.zero_add, List.nil_append] at hown; have g3 := g.grownBy hgrow (fun _ h => by cases h); go_wp2_with fail)
  rw [hc]
  go_loopw [9] (fun sv wr => ∃ (gc cc : Nat) (l : List Sec), sv = .slice (some ⟨gc, 0, none⟩) l.length cc ∧ 1 ≤ l.length ∧ l.length ≤ 6 ∧ (∀ s ∈ l, s.I) ∧ wr.ownsRow w.heap.size 30 6 (.slice (some ⟨gc, 0, none⟩) l.length cc) l.length (flat l) ∧ B w wr) (fun sv _ => 7 - sliceLen sv)
  case atStart => exact ⟨gb, cp, lk, rfl, lk1, by omega, HIA.out, hown, g3⟩
  case round =>
    obtain ⟨gc, cc, l, rfl, l1, l6, hI, hown, hb⟩ := hrel
    by_cases hlt2 : (l.length : Int) < t
    · have hlB : decide ((l.length : Int) < t) = true := decide_eq_true hlt2
      have hg := List.getElem?_eq_getElem (show 0 < l.length by omega)
      have hI0 := hI _ (List.getElem_mem (show 0 < l.length by omega))
      have fg := fun j hj => (hown.cellAt j (by omega)).trans ((congrArg (fun k => (flat l)[k]?) (show j = 0 * 6 + j by omega)).trans (flat_get l 0 j _ hg hj))
      generalize l[0] = s at *
      obtain ⟨r, h, a0, b0, a1, b1⟩ := s
      have y0 := fg 0 (by omega)
      have y1 := fg 1 (by omega)
      have y2 := fg 2 (by omega)
      have y3 := fg 3 (by omega)
      have y4 := fg 4 (by omega)
      have y5 := fg 5 (by omega)
      simp only [Sec.cells, List.getElem?_cons_zero, List.getElem?_cons_succ] at y0 y1 y2 y3 y4 y5
      have HI := Lib.hid hI
      have HI0 := Lib.hid hI0
      have hlen : l.length ≤ 5 := by omega
      clear hI hI0 fg hg
      go_wp2_with (at_builtin; refine wpList_append_lies _ rfl _ _ 25 rfl w.heap.size 30 i0 _ 6 48 Try.underlying25 hi0 hz0 hz1 hz2 rfl (by omega) (.slice (some ⟨gc, 0, none⟩) l.length cc) l.length (flat l) rfl (hown.alloc _) ⟨wr.heap.size, 0, none⟩ 1 1 (Sec.cells ⟨r, h, a0, b0, a1, b1⟩) rfl rfl (news_plain rfl) (by simp [Sec.cells, Value.oneCell']) (by omega) (by unfold maxLen; omega) (by omega) (by have := hb.below.size; simp; omega) (wr.heap.size + 1) (by simp) ?_; intro ge ce W4 hown2 hgrow2 hat2 hlt4)
      go_roundw
      case rel =>
        refine ⟨ge, ce, l ++ [⟨r, h, a0, b0, a1, b1⟩], by simp, by simp, by simp; omega, ?_, ?_, ?_⟩
        · intro s hs
          rcases List.mem_append.1 hs with h | h
          · exact HI.out s h
          · rw [List.mem_singleton.1 h]; exact HI0.out
        · rw [flat_snoc, List.length_append]; exact hown2
        · exact (hb.alloc _ _).grownBy hgrow2 (fun b hb' => (hown.lt b hb').1)
      case measure => simp [sliceLen]; omega
    · have hlB : decide ((l.length : Int) < t) = false := decide_eq_false hlt2
      have HS := secs_own hown rfl (by omega) hI
      have g4 := hb
      obtain ⟨l', rfl⟩ : ∃ l', l' = l := ⟨_, rfl⟩
      clear hown hb hI
      have hrr : rightS l' = true ∨ rightS l' = false := by cases rightS l' <;> simp
      rcases hrr with hrr | hrr
      · go_wp2_with fail
        refine (hR _ l' _ HS).mono ?_
        rintro e W5 ⟨rfl, q5⟩
        replace HS := HS.keepB q5
        replace g4 := g4.trans q5
        clear q5
        go_wp2_with fail
        refine (r3right_any _ l' _ HS).mono ?_
        rintro e W6 ⟨rfl, q6⟩
        replace HS := HS.keepB q6.b
        replace g4 := g4.trans q6.b
        clear q6
        go_wp2_with fail
        refine (r3right_any _ l' _ HS).mono ?_
        rintro e W7 ⟨rfl, q7⟩
        replace HS := HS.keepB q7.b
        replace g4 := g4.trans q7.b
        clear q7
        have hsum := sum_right l' hrr
        go_wp2_with fail
        refine (hH _ l' _ HS hrr).mono ?_
        rintro e W8 ⟨rfl, q8⟩
        replace HS := HS.keepB q8
        replace g4 := g4.trans q8
        clear q8
        go_wp2_with fail
        refine (rheight_any _ l' _ HS).mono ?_
        rintro e W9 ⟨rfl, rfl⟩
        go_wp2
        go_ret
        exact ⟨rfl, g4⟩
      · go_wp2_with fail
        refine (hR _ l' _ HS).mono ?_
        rintro e W5 ⟨rfl, q5⟩
        replace HS := HS.keepB q5
        replace g4 := g4.trans q5
        clear q5
        go_wp2_with fail
        refine (r3right_any _ l' _ HS).mono ?_
        rintro e W6 ⟨rfl, q6⟩
        replace HS := HS.keepB q6.b
        replace g4 := g4.trans q6.b
        clear q6
        go_wp2_with fail
        refine (r3right_any _ l' _ HS).mono ?_
        rintro e W7 ⟨rfl, q7⟩
        replace HS := HS.keepB q7.b
        replace g4 := g4.trans q7.b
        clear q7
        go_wp2
        go_ret
        exact ⟨rfl, g4⟩

theorem bends_law (hS : SideC) (hR : RightC) (hH : HeightC) (k what v n : Int) (hk : (Lit.int .u8 k).wf = true) (hw : (Lit.int .u8 what).wf = true) (hv : (Lit.int .i64 v).wf = true) (hn : (Lit.int .u8 n).wf = true) (w : World) :
    Calls Try.prog 4 #[.int .u8 k, .int .u8 what, .int .i64 v, .int .u8 n] w fun e w' => e = .returned (.bool true) ∧ B w w' := by
  have h := u8_wf hw
  have : what % 9 = 0 ∨ what % 9 = 1 ∨ what % 9 = 2 ∨ what % 9 = 3 ∨ what % 9 = 4 ∨ what % 9 = 5 ∨ what % 9 = 6 ∨ what % 9 = 7 ∨ what % 9 = 8 := by omega
  rcases this with c | c | c | c | c | c | c | c | c
  · exact bends_0 hS hR hH k what v n hk hw hv hn c w
  · exact bends_1 hS hR hH k what v n hk hw hv hn c w
  · exact bends_2 hS hR hH k what v n hk hw hv hn c w
  · exact bends_3 hS hR hH k what v n hk hw hv hn c w
  · exact bends_4 hS hR hH k what v n hk hw hv hn c w
  · exact bends_5 hS hR hH k what v n hk hw hv hn c w
  · exact bends_6 hS hR hH k what v n hk hw hv hn c w
  · exact bends_7 hS hR hH k what v n hk hw hv hn c w
  · exact bends_8 hS hR hH k what v n hk hw hv hn c w
end Go.Proofs.Ythibjkjdimgipaa
