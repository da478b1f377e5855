/-
  The statements' shapes of many numbers.
-/
import Derived.Test.YtkiepmfknbbeaaaSeat1
import Derived.Test.YtkiepmfknbbeaaaSecq
import Derived.Test.YtkiepmfknbbeaaaReg
import Derived.OwnWalk
import Derived.Deep.AppendLies
import Derived.KernelRfl
namespace Go.Proofs.Ytkiepmfknbbeaaa
open Go.RowKit

theorem wrapH {z : Int} (h1 : 0 ≤ z) (h2 : z ≤ 65535) : IntKind.u16.wrap z = z := by
  simp [IntKind.wrap, IntKind.signed, IntKind.bits]; omega
/-- A height of a number. -/
theorem pick_h (x : Int) (h1 : 0 ≤ x) : ∃ u m t y : Int, x.tmod 5 = u ∧ x.tmod 60 = m ∧ IntKind.u16.wrap (m + 1) = t ∧ IntKind.i64.wrap t = t ∧ IntKind.i64.wrap (t * 100) = y ∧ 100 ≤ y ∧ y ≤ 6000 ∧ y.tmod 100 = 0 := by
  have e := Int.tmod_eq_emod_of_nonneg (b := 60) h1
  refine ⟨_, _, x % 60 + 1, (x % 60 + 1) * 100, rfl, rfl, ?_, ?_, ?_, ?_, ?_, ?_⟩
  · rw [e]; exact wrapH (by omega) (by omega)
  · exact wrapI (by omega) (by omega)
  · exact wrapI (by omega) (by omega)
  · omega
  · omega
  · rw [Int.tmod_eq_emod_of_nonneg (by omega)]; omega
/-- A side of a number, from nought on. -/
theorem pick_a (x : Int) (h1 : 0 ≤ x) : ∃ y : Int, x.tmod 9000 = y ∧ IntKind.i64.wrap y = y ∧ 0 ≤ y ∧ y ≤ 8999 := by
  have e := Int.tmod_eq_emod_of_nonneg (b := 9000) h1
  exact ⟨x % 9000, e, wrapI (by omega) (by omega), by omega, by omega⟩
/-- A side of a number, from one on. -/
theorem pick_b (x : Int) (h1 : 0 ≤ x) : ∃ m y : Int, x.tmod 9000 = m ∧ IntKind.i64.wrap m = m ∧ IntKind.i64.wrap (m + 1) = y ∧ 1 ≤ y ∧ y ≤ 9000 := by
  obtain ⟨m, e1, e2, e3, e4⟩ := pick_a x h1
  exact ⟨m, m + 1, e1, e2, wrapI (by omega) (by omega), by omega, by omega⟩
theorem pick_i (j d : Nat) (h : j ≤ 20) (hd : d ≤ 5) : ∃ i : Nat, i = j + d ∧ IntKind.i64.wrap ((j : Int) + (d : Int)) = (i : Int) ∧ (j : Int) + (d : Int) = (i : Int) ∧ IntKind.i64.wrap (i : Int) = (i : Int) := ⟨j + d, rfl, by rw [wrapI (by omega) (by omega)]; omega, by omega, wrapI (by omega) (by omega)⟩

theorem hsum_wild (l : List Sec) (h : ∀ s ∈ l, s.h ≤ 6000) : ∀ k : Nat, hsumI l k ≤ 6000 * (k : Int)
  | 0 => by simp [hsumI]
  | k + 1 => by
    have ih := hsum_wild l h k
    cases hg : l[k]? with
    | none =>
      have e1 : l.take (k + 1) = l.take k := by rw [List.take_add_one, hg]; simp
      unfold hsumI at *
      rw [e1]
      omega
    | some s =>
      rw [hsumI_succ l k s hg]
      have := h s (List.mem_of_getElem? hg)
      omega
theorem news_alloc {w : World} {cs : Array Value} {t : TypeId} {H : Nat} (hH : w.heap.size = H) : ∀ j u, cs.toList[j]? = some u → ((w.alloc (.cells cs t)).drew).cell? ((⟨H, 0, none⟩ : Addr).add j) = some u := by
  intro j u h
  rw [add0]
  subst hH
  show (w.alloc _).cell? _ = _
  rw [World.cell?_alloc_new]
  simpa using h
/-- A right shape is answered, in new memory. -/
def Wilded (w : World) (e : Ending) (w' : World) : Prop := ∃ v l, e = .returned v ∧ IsSecs w' v l ∧ rightS l = true ∧ B w w'
/-- A section of those shapes. -/
def wildSec (s : Sec) : Prop := secOk s = true ∧ s.h ≤ 6000 ∧ s.I ∧ s.a0 ≤ 9000 ∧ s.a1 ≤ 9000
/-- A right shape is answered, in new memory, of sides that aren't great. -/
def WildedS (w : World) (e : Ending) (w' : World) : Prop := ∃ v l, e = .returned v ∧ IsSecs w' v l ∧ rightS l = true ∧ (∀ s ∈ l, s.I ∧ s.a0 ≤ 9000 ∧ s.a1 ≤ 9000) ∧ B w w'
theorem shape0_sides : ∀ s ∈ shapeOf ((0 : Int) % 6).toNat, s.I ∧ s.a0 ≤ 9000 ∧ s.a1 ≤ 9000 := fun s hs => by
  have hI := fitsB_I (l := shapeOf 0) (by decide) s hs
  have e : s = ⟨true, 10000, 7000, 0, 7000, 0⟩ := List.mem_singleton.1 hs
  refine ⟨hI, ?_, ?_⟩ <;> rw [e] <;> decide
theorem wild_right (l : List Sec) (h1 : 1 ≤ l.length) (h2 : l.length ≤ 4) (h : ∀ s ∈ l, wildSec s) : rightS l = true := by
  have hs := hsum_wild l (fun s hs => (h s hs).2.1) l.length
  have ha : l.all secOk = true := List.all_eq_true.2 fun s hs => (h s hs).1
  unfold rightS
  rw [decide_eq_true h1, decide_eq_true h2, ha, decide_eq_true (by omega)]
  rfl
theorem inB_of {v a b : Int} (h1 : a ≤ v) (h2 : v ≤ b) : inB v a b = true := by
  unfold inB; rw [decide_eq_true h1, decide_eq_true h2]; rfl
theorem wild_true (y0 y1 y2 : Int) (s6 : 100 ≤ y0) (s7 : y0 ≤ 6000) (s8 : y0.tmod 100 = 0) (s11 : 0 ≤ y1) (s12 : y1 ≤ 8999) (s16 : 1 ≤ y2) (s17 : y2 ≤ 9000) : wildSec ⟨true, y0, y1, 0, y2, 0⟩ := by
  refine ⟨?_, s7, ⟨?_, ?_, ?_, ?_, ?_⟩, ?_, ?_⟩
  · unfold secOk
    simp only [inB_of (show 0 ≤ y1 by omega) (show y1 ≤ 20000 by omega), inB_of (show 1 ≤ y2 by omega) (show y2 ≤ 20000 by omega), decide_eq_true (show 1 ≤ y0 by omega), decide_eq_true (show y0 ≤ 60000 by omega), decide_eq_true s8]
    simp
  all_goals first | (unfold I64; simp; omega) | (unfold I64; simp; done) | (simp only; omega)
theorem wild_false (y0 y1 y2 y3 y4 : Int) (s6 : 100 ≤ y0) (s7 : y0 ≤ 6000) (s8 : y0.tmod 100 = 0) (s11 : 0 ≤ y1) (s12 : y1 ≤ 8999) (s16 : 1 ≤ y2) (s17 : y2 ≤ 9000) (s20 : 0 ≤ y3) (s21 : y3 ≤ 8999) (s25 : 1 ≤ y4) (s26 : y4 ≤ 9000) :
    wildSec ⟨false, y0, y1, y3, y2, y4⟩ := by
  refine ⟨?_, s7, ⟨?_, ?_, ?_, ?_, ?_⟩, ?_, ?_⟩
  · unfold secOk
    simp only [inB_of (show 0 ≤ y1 by omega) (show y1 ≤ 20000 by omega), inB_of (show 1 ≤ y2 by omega) (show y2 ≤ 20000 by omega), inB_of (show 0 ≤ y3 by omega) (show y3 ≤ 20000 by omega), inB_of (show 1 ≤ y4 by omega) (show y4 ≤ 20000 by omega), decide_eq_true (show 1 ≤ y0 by omega), decide_eq_true (show y0 ≤ 60000 by omega), decide_eq_true s8]
    simp
  all_goals first | (unfold I64; simp; omega) | (unfold I64; simp; done) | (simp only; omega)

set_option maxRecDepth 100000 in
set_option maxHeartbeats 8000000 in
theorem wild_row (a : Addr) (cap n : Nat) (rd : Bool) (h2 : n ≤ cap) (h3 : cap ≤ maxLen) (w : World) (h4 : ∀ i, i < n → ∃ x : Int, 0 ≤ x ∧ x ≤ 65535 ∧ w.cell? (a.add i) = some (.int .u16 x)) :
    Calls Try.prog 18 #[.slice (some a) n cap, .bool rd] w (WildedS w) := by
  unfold maxLen at h3
  have h5 : n ≤ 2 ^ 63 - 1 := Nat.le_trans h2 h3
  clear h2 h3
  obtain ⟨i0, hi0, hz0, hz1, hz2⟩ := info_parts secInfo
  go_enter Try.func18, Try.ntmps18
  go_wp2
  go_loopw [5, 6] (fun sv iv wr => ∃ (k : Nat) (ao : Option Addr) (c : Nat), k ≤ 4 ∧ iv = .int .i64 ((5 * k : Nat) : Int) ∧ sv = .slice ao k c ∧
      (∃ l : List Sec, l.length = k ∧ (∀ s ∈ l, wildSec s) ∧ wr.ownsRow w.heap.size 78 6 (.slice ao k c) k (flat l)) ∧ B w wr) (fun _ iv _ => 25 - (intOf iv).toNat)
  case atStart => exact ⟨0, none, 0, by omega, rfl, rfl, ⟨[], rfl, by simp, World.ownsRow_nil _ _ _ _⟩, B.refl _⟩
  case round =>
    obtain ⟨k, ao, c, hk, rfl, rfl, ⟨l, hl, hw, hown⟩, hb⟩ := hrel
    obtain ⟨j0, hj0⟩ : ∃ j, j = 5 * k := ⟨_, rfl⟩
    rw [← hj0]
    by_cases hc : 5 * k + 4 < n ∧ k < 4
    · obtain ⟨hc1, hc2⟩ := hc
      obtain ⟨x0, p0, q0, f0⟩ := h4 j0 (by omega)
      obtain ⟨x1, p1, q1, f1⟩ := h4 (j0 + 1) (by omega)
      obtain ⟨x2, p2, q2, f2⟩ := h4 (j0 + 2) (by omega)
      obtain ⟨x3, p3, q3, f3⟩ := h4 (j0 + 3) (by omega)
      obtain ⟨x4, p4, q4, f4⟩ := h4 (j0 + 4) (by omega)
      replace f0 := hb.keep f0
      replace f1 := hb.keep f1
      replace f2 := hb.keep f2
      replace f3 := hb.keep f3
      replace f4 := hb.keep f4
      obtain ⟨j1, e1, r1, r1', v1⟩ := pick_i j0 1 (by omega) (by omega)
      obtain ⟨j2, e2, r2, r2', v2⟩ := pick_i j0 2 (by omega) (by omega)
      obtain ⟨j3, e3, r3, r3', v3⟩ := pick_i j0 3 (by omega) (by omega)
      obtain ⟨j4, e4, r4, r4', v4⟩ := pick_i j0 4 (by omega) (by omega)
      obtain ⟨j5, e5, r5, r5', v5⟩ := pick_i j0 5 (by omega) (by omega)
      rw [← e1] at f1
      rw [← e2] at f2
      rw [← e3] at f3
      rw [← e4] at f4
      have b0 : (j0 : Int) < (n : Int) := by omega
      have b1 : (j1 : Int) < (n : Int) := by omega
      have b2 : (j2 : Int) < (n : Int) := by omega
      have b3 : (j3 : Int) < (n : Int) := by omega
      have b4 : (j4 : Int) < (n : Int) := by omega
      have g4 : decide (j4 < n) = true := decide_eq_true (by omega)
      have gk : decide ((k : Int) < 4) = true := decide_eq_true (by omega)
      obtain ⟨u, m0, t0, y0, s1, s2, s3, s4, s5, s6, s7, s8⟩ := pick_h x0 p0
      obtain ⟨y1, s9, s10, s11, s12⟩ := pick_a x1 p1
      obtain ⟨m2, y2, s13, s14, s15, s16, s17⟩ := pick_b x2 p2
      obtain ⟨y3, s18, s19, s20, s21⟩ := pick_a x3 p3
      obtain ⟨m4, y4, s22, s23, s24, s25, s26⟩ := pick_b x4 p4
      simp only [Int.natCast_one, show ((2 : Nat) : Int) = 2 from rfl, show ((3 : Nat) : Int) = 3 from rfl, show ((4 : Nat) : Int) = 4 from rfl, show ((5 : Nat) : Int) = 5 from rfl] at r1 r1' r2 r2' r3 r3' r4 r4' r5 r5'
      have HJ := Lib.hid (And.intro hj0 e5)
      have HL := Lib.hid (And.intro hl hc2)
      clear h4 e1 e2 e3 e4 e5 hj0 hl
      have hr : (!rd == (u == 0)) = true ∨ (!rd == (u == 0)) = false := by cases (!rd == (u == 0)) <;> simp
      rcases hr with hr | hr
      · have ws : wildSec ⟨true, y0, y1, 0, y2, 0⟩ := wild_true y0 y1 y2 s6 s7 s8 s11 s12 s16 s17
        have HW := Lib.hid ws
        clear ws
        go_wp2_with fail
        refine wp_region_noPanic ?_
        refine wp_region_seq (S := fun w' => w'.cell? (a.add j0) = some (.int .u16 x0) ∧ w'.cell? (a.add j1) = some (.int .u16 x1) ∧ w'.cell? (a.add j2) = some (.int .u16 x2) ∧ w'.cell? (a.add j3) = some (.int .u16 x3) ∧ w'.cell? (a.add j4) = some (.int .u16 x4)) [(0, 0), (1, 0), (2, 0), (3, 0), (4, 0), (5, 0), (6, 0), (7, 0), (8, 0), (9, 0), (10, 0), (11, 0), (12, 0), (13, 0), (14, 0), (15, 0), (16, 0), (17, 0), (18, 0), (19, 0), (20, 0), (21, 0), (22, 0), (23, 0), (24, 0), (25, 0), (26, 0), (27, 0), (28, 0), (29, 0), (30, 0), (31, 0), (32, 0), (33, 0), (34, 0), (35, 0), (36, 0), (37, 0), (38, 0), (39, 0), (40, 0), (41, 0), (42, 0), (43, 0), (44, 0), (45, 0), (46, 0), (47, 2), (48, 2)] [0, 0, 0, 6, 8, 16, 32, 65, 0, 0, 768, 1024, 2048, 4096, 8192, 16384, 0, 0, 131072, 327680, 524288, 1048576, 2097152, 0, 0, 16777216, 41943040, 67108864, 134217728, 268435456, 536870912, 0, 0, 4294967296, 10737418240, 17179869184, 34359738368, 68719476736, 0, 0, 549755813888, 1374389534720, 2199023255552, 4398046511104, 8796093022208, 17592186044416, 35322889011328, 0, 281474976710655] [0, 0, 0, 6, 8, 16, 32, 65, 0, 0, 768, 1024, 2048, 4096, 8192, 16384, 0, 0, 131072, 327680, 524288, 1048576, 2097152, 0, 0, 16777216, 41943040, 67108864, 134217728, 268435456, 536870912, 0, 0, 4294967296, 10737418240, 17179869184, 34359738368, 68719476736, 0, 0, 549755813888, 1374389534720, 2199023255552, 4398046511104, 8796093022208, 17592186044416, 35322889011328, 0, 211106232532992] (by kernel_rfl) (by kernel_rfl) (fun _ _ _ _ _ h => h) ?_ (fun hH => ?_)
        · exact ⟨by simp [go_sem, f0], by simp [go_sem, f1], by simp [go_sem, f2], by simp [go_sem, f3], by simp [go_sem, f4]⟩
        refine wpSeq_take (d := 20) (v := ?_) rfl rfl (by kernel_rfl) (fun w hS => ?_) ?_
        rotate_left
        · go_simp <;> with_reducible rfl
        dsimp only [List.set_cons_zero, List.set_cons_succ]
        refine wpSeq_take (d := 21) (v := ?_) rfl rfl (by kernel_rfl) (fun w hS => ?_) ?_
        rotate_left
        · go_simp <;> with_reducible rfl
        dsimp only [List.set_cons_zero, List.set_cons_succ]
        refine wpSeq_take (d := 22) (v := ?_) rfl rfl (by kernel_rfl) (fun w hS => ?_) ?_
        rotate_left
        · go_simp <;> with_reducible rfl
        dsimp only [List.set_cons_zero, List.set_cons_succ]
        refine wpSeq_take (d := 23) (v := ?_) rfl rfl (by kernel_rfl) (fun w hS => ?_) ?_
        rotate_left
        · go_simp <;> with_reducible rfl
        dsimp only [List.set_cons_zero, List.set_cons_succ]
        refine wpSeq_take (d := 24) (v := ?_) rfl rfl (by kernel_rfl) (fun w hS => ?_) ?_
        rotate_left
        · go_simp <;> with_reducible rfl
        dsimp only [List.set_cons_zero, List.set_cons_succ]
        refine wpSeq_take (d := 25) (v := ?_) rfl rfl (by kernel_rfl) (fun w hS => ?_) ?_
        rotate_left
        · go_simp <;> with_reducible rfl
        dsimp only [List.set_cons_zero, List.set_cons_succ]
        refine wpSeq_take (d := 26) (v := ?_) rfl rfl (by kernel_rfl) (fun w hS => ?_) ?_
        rotate_left
        · go_simp <;> with_reducible rfl
        dsimp only [List.set_cons_zero, List.set_cons_succ]
        refine wpSeq_take (d := 27) (v := ?_) rfl rfl (by kernel_rfl) (fun w hS => ?_) ?_
        rotate_left
        · go_simp <;> with_reducible rfl
        dsimp only [List.set_cons_zero, List.set_cons_succ]
        refine wpSeq_take (d := 28) (v := ?_) rfl rfl (by kernel_rfl) (fun w hS => ?_) ?_
        rotate_left
        · go_simp <;> with_reducible rfl
        dsimp only [List.set_cons_zero, List.set_cons_succ]
        refine wpSeq_take (d := 29) (v := ?_) rfl rfl (by kernel_rfl) (fun w hS => ?_) ?_
        rotate_left
        · go_simp <;> with_reducible rfl
        dsimp only [List.set_cons_zero, List.set_cons_succ]
        refine wpSeq_take (d := 30) (v := ?_) rfl rfl (by kernel_rfl) (fun w hS => ?_) ?_
        rotate_left
        · go_simp <;> with_reducible rfl
        dsimp only [List.set_cons_zero, List.set_cons_succ]
        refine wpSeq_take (d := 31) (v := ?_) rfl rfl (by kernel_rfl) (fun w hS => ?_) ?_
        rotate_left
        · go_simp <;> with_reducible rfl
        dsimp only [List.set_cons_zero, List.set_cons_succ]
        refine wpSeq_take (d := 32) (v := ?_) rfl rfl (by kernel_rfl) (fun w hS => ?_) ?_
        rotate_left
        · go_simp <;> with_reducible rfl
        dsimp only [List.set_cons_zero, List.set_cons_succ]
        refine wpSeq_take (d := 33) (v := ?_) rfl rfl (by kernel_rfl) (fun w hS => ?_) ?_
        rotate_left
        · go_simp <;> with_reducible rfl
        dsimp only [List.set_cons_zero, List.set_cons_succ]
        refine wpSeq_take (d := 34) (v := ?_) rfl rfl (by kernel_rfl) (fun w hS => ?_) ?_
        rotate_left
        · go_simp <;> with_reducible rfl
        dsimp only [List.set_cons_zero, List.set_cons_succ]
        refine wpSeq_take (d := 35) (v := ?_) rfl rfl (by kernel_rfl) (fun w hS => ?_) ?_
        rotate_left
        · go_simp <;> with_reducible rfl
        dsimp only [List.set_cons_zero, List.set_cons_succ]
        refine wpSeq_take (d := 36) (v := ?_) rfl rfl (by kernel_rfl) (fun w hS => ?_) ?_
        rotate_left
        · go_simp <;> with_reducible rfl
        dsimp only [List.set_cons_zero, List.set_cons_succ]
        refine wpSeq_take (d := 37) (v := ?_) rfl rfl (by kernel_rfl) (fun w hS => ?_) ?_
        rotate_left
        · go_simp <;> with_reducible rfl
        dsimp only [List.set_cons_zero, List.set_cons_succ]
        refine wpSeq_take (d := 38) (v := ?_) rfl rfl (by kernel_rfl) (fun w hS => ?_) ?_
        rotate_left
        · go_simp <;> with_reducible rfl
        dsimp only [List.set_cons_zero, List.set_cons_succ]
        refine wpSeq_take (d := 39) (v := ?_) rfl rfl (by kernel_rfl) (fun w hS => ?_) ?_
        rotate_left
        · go_simp <;> with_reducible rfl
        dsimp only [List.set_cons_zero, List.set_cons_succ]
        refine wpSeq_take (d := 40) (v := ?_) rfl rfl (by kernel_rfl) (fun w hS => ?_) ?_
        rotate_left
        · go_simp <;> with_reducible rfl
        dsimp only [List.set_cons_zero, List.set_cons_succ]
        refine wpSeq_take (d := 41) (v := ?_) rfl rfl (by kernel_rfl) (fun w hS => ?_) ?_
        rotate_left
        · go_simp <;> with_reducible rfl
        dsimp only [List.set_cons_zero, List.set_cons_succ]
        refine wpSeq_take (d := 42) (v := ?_) rfl rfl (by kernel_rfl) (fun w hS => ?_) ?_
        rotate_left
        · go_simp <;> with_reducible rfl
        dsimp only [List.set_cons_zero, List.set_cons_succ]
        refine wpSeq_take (d := 43) (v := ?_) rfl rfl (by kernel_rfl) (fun w hS => ?_) ?_
        rotate_left
        · go_simp <;> with_reducible rfl
        dsimp only [List.set_cons_zero, List.set_cons_succ]
        refine wpSeq_take (d := 44) (v := ?_) rfl rfl (by kernel_rfl) (fun w hS => ?_) ?_
        rotate_left
        · go_simp <;> with_reducible rfl
        dsimp only [List.set_cons_zero, List.set_cons_succ]
        refine wpSeq_take (d := 45) (v := ?_) rfl rfl (by kernel_rfl) (fun w hS => ?_) ?_
        rotate_left
        · go_simp <;> with_reducible rfl
        dsimp only [List.set_cons_zero, List.set_cons_succ]
        refine wpSeq_take (d := 46) (v := ?_) rfl rfl (by kernel_rfl) (fun w hS => ?_) ?_
        rotate_left
        · go_simp <;> with_reducible rfl
        dsimp only [List.set_cons_zero, List.set_cons_succ]
        refine wpSeq_take (d := 47) (v := ?_) rfl rfl (by kernel_rfl) (fun w hS => ?_) ?_
        rotate_left
        · go_simp <;> with_reducible rfl
        dsimp only [List.set_cons_zero, List.set_cons_succ]
        refine wpSeq_take (d := 48) (v := ?_) rfl rfl (by kernel_rfl) (fun w hS => ?_) ?_
        rotate_left
        · go_simp <;> with_reducible rfl
        dsimp only [List.set_cons_zero, List.set_cons_succ]
        refine wpSeq_take (d := 49) (v := ?_) rfl rfl (by kernel_rfl) (fun w hS => ?_) ?_
        rotate_left
        · go_simp <;> with_reducible rfl
        dsimp only [List.set_cons_zero, List.set_cons_succ]
        refine wpSeq_take (d := 50) (v := ?_) rfl rfl (by kernel_rfl) (fun w hS => ?_) ?_
        rotate_left
        · go_simp <;> with_reducible rfl
        dsimp only [List.set_cons_zero, List.set_cons_succ]
        refine wpSeq_take (d := 51) (v := ?_) rfl rfl (by kernel_rfl) (fun w hS => ?_) ?_
        rotate_left
        · go_simp <;> with_reducible rfl
        dsimp only [List.set_cons_zero, List.set_cons_succ]
        refine wpSeq_take (d := 52) (v := ?_) rfl rfl (by kernel_rfl) (fun w hS => ?_) ?_
        rotate_left
        · go_simp <;> with_reducible rfl
        dsimp only [List.set_cons_zero, List.set_cons_succ]
        refine wpSeq_take (d := 53) (v := ?_) rfl rfl (by kernel_rfl) (fun w hS => ?_) ?_
        rotate_left
        · go_simp <;> with_reducible rfl
        dsimp only [List.set_cons_zero, List.set_cons_succ]
        refine wpSeq_take (d := 54) (v := ?_) rfl rfl (by kernel_rfl) (fun w hS => ?_) ?_
        rotate_left
        · go_simp <;> with_reducible rfl
        dsimp only [List.set_cons_zero, List.set_cons_succ]
        refine wpSeq_take (d := 55) (v := ?_) rfl rfl (by kernel_rfl) (fun w hS => ?_) ?_
        rotate_left
        · go_simp <;> with_reducible rfl
        dsimp only [List.set_cons_zero, List.set_cons_succ]
        refine wpSeq_take (d := 56) (v := ?_) rfl rfl (by kernel_rfl) (fun w hS => ?_) ?_
        rotate_left
        · go_simp <;> with_reducible rfl
        dsimp only [List.set_cons_zero, List.set_cons_succ]
        refine wpSeq_take (d := 57) (v := ?_) rfl rfl (by kernel_rfl) (fun w hS => ?_) ?_
        rotate_left
        · go_simp <;> with_reducible rfl
        dsimp only [List.set_cons_zero, List.set_cons_succ]
        refine wpSeq_take (d := 58) (v := ?_) rfl rfl (by kernel_rfl) (fun w hS => ?_) ?_
        rotate_left
        · go_simp <;> with_reducible rfl
        dsimp only [List.set_cons_zero, List.set_cons_succ]
        refine wpSeq_take (d := 59) (v := ?_) rfl rfl (by kernel_rfl) (fun w hS => ?_) ?_
        rotate_left
        · go_simp <;> with_reducible rfl
        dsimp only [List.set_cons_zero, List.set_cons_succ]
        refine wpSeq_take (d := 60) (v := ?_) rfl rfl (by kernel_rfl) (fun w hS => ?_) ?_
        rotate_left
        · go_simp <;> with_reducible rfl
        dsimp only [List.set_cons_zero, List.set_cons_succ]
        refine wpSeq_take (d := 61) (v := ?_) rfl rfl (by kernel_rfl) (fun w hS => ?_) ?_
        rotate_left
        · go_simp <;> with_reducible rfl
        dsimp only [List.set_cons_zero, List.set_cons_succ]
        refine wpSeq_take (d := 62) (v := ?_) rfl rfl (by kernel_rfl) (fun w hS => ?_) ?_
        rotate_left
        · go_simp <;> with_reducible rfl
        dsimp only [List.set_cons_zero, List.set_cons_succ]
        refine wpSeq_take (d := 63) (v := ?_) rfl rfl (by kernel_rfl) (fun w hS => ?_) ?_
        rotate_left
        · go_simp <;> with_reducible rfl
        dsimp only [List.set_cons_zero, List.set_cons_succ]
        refine wpSeq_take (d := 64) (v := ?_) rfl rfl (by kernel_rfl) (fun w hS => ?_) ?_
        rotate_left
        · go_simp <;> with_reducible rfl
        dsimp only [List.set_cons_zero, List.set_cons_succ]
        refine wpSeq_take (d := 65) (v := ?_) rfl rfl (by kernel_rfl) (fun w hS => ?_) ?_
        rotate_left
        · go_simp <;> with_reducible rfl
        dsimp only [List.set_cons_zero, List.set_cons_succ]
        refine wpSeq_take (d := 66) (v := ?_) rfl rfl (by kernel_rfl) (fun w hS => ?_) ?_
        rotate_left
        · go_simp <;> with_reducible rfl
        dsimp only [List.set_cons_zero, List.set_cons_succ]
        refine wpSeq_call rfl (by kernel_rfl) (fun K hK => ?_)
        go_simp
        refine hK.out _ _ ?_ (fun hH => ?_)
        · first | exact ⟨((B.refl _).alloc _ _).keep hH.1, ((B.refl _).alloc _ _).keep hH.2.1, ((B.refl _).alloc _ _).keep hH.2.2.1, ((B.refl _).alloc _ _).keep hH.2.2.2.1, ((B.refl _).alloc _ _).keep hH.2.2.2.2⟩ | exact ⟨(((B.refl wr).alloc _ _).drew).keep f0, (((B.refl wr).alloc _ _).drew).keep f1, (((B.refl wr).alloc _ _).drew).keep f2, (((B.refl wr).alloc _ _).drew).keep f3, (((B.refl wr).alloc _ _).drew).keep f4⟩ | (simp [go_sem, *])
        clear hK
        refine wpSeq_call rfl (by kernel_rfl) (fun K hK => ?_)
        go_simp
        refine hK.out _ _ ?_ (fun hH => ?_)
        · first | exact ⟨((B.refl _).alloc _ _).keep hH.1, ((B.refl _).alloc _ _).keep hH.2.1, ((B.refl _).alloc _ _).keep hH.2.2.1, ((B.refl _).alloc _ _).keep hH.2.2.2.1, ((B.refl _).alloc _ _).keep hH.2.2.2.2⟩ | exact ⟨(((B.refl wr).alloc _ _).drew).keep f0, (((B.refl wr).alloc _ _).drew).keep f1, (((B.refl wr).alloc _ _).drew).keep f2, (((B.refl wr).alloc _ _).drew).keep f3, (((B.refl wr).alloc _ _).drew).keep f4⟩ | (simp [go_sem, *])
        clear hK
        refine wpSeq_done ?_
        refine NoPanic.normal ?_
        clear hH
        go_wp2_with (at_builtin; refine wpList_append_lies _ rfl _ _ 22 rfl w.heap.size 78 i0 _ 6 48 Try.underlying22 hi0 hz0 hz1 hz2 rfl (by omega) (.slice ao k c) k (flat l) rfl (((hown.alloc _).alloc _).drew) ⟨wr.heap.size + 1, 0, none⟩ 1 1 [.bool true, .int .i64 y0, .int .i64 y1, .int .i64 0, .int .i64 y2, .int .i64 0] rfl rfl (news_alloc (by simp)) (by simp [Value.oneCell']) (by omega) (by unfold maxLen; omega) (by omega) (by have := hb.below.size; simp; omega) (wr.heap.size + 1 + 1) (by simp) ?_; intro g cp w1 hown1 hgrow hat hlt)
        go_wp2
        go_roundw
        case rel =>
          obtain ⟨hl, _⟩ := HL.out
          refine ⟨k + 1, some ⟨g, 0, none⟩, cp, by omega, ?_, rfl, ⟨l ++ [⟨true, y0, y1, 0, y2, 0⟩], by simp [hl], ?_, ?_⟩, ?_⟩
          · obtain ⟨hj, hj'⟩ := HJ.out
            rw [show 5 * (k + 1) = j5 by omega]
          · intro s hs
            rcases List.mem_append.1 hs with h | h
            · exact hw s h
            · rw [List.mem_singleton.1 h]; exact HW.out
          · rw [flat_snoc]; exact hown1
          · exact (((hb.alloc _ _).alloc _ _).drew).grownBy hgrow (fun b hb' => (hown.lt b hb').1)
        case measure =>
          obtain ⟨hj, hj'⟩ := HJ.out
          simp [intOf]; omega
      · have ws : wildSec ⟨false, y0, y1, y3, y2, y4⟩ := wild_false y0 y1 y2 y3 y4 s6 s7 s8 s11 s12 s16 s17 s20 s21 s25 s26
        have HW := Lib.hid ws
        clear ws
        go_wp2_with fail
        refine wp_region_noPanic ?_
        refine wp_region_seq (S := fun w' => w'.cell? (a.add j0) = some (.int .u16 x0) ∧ w'.cell? (a.add j1) = some (.int .u16 x1) ∧ w'.cell? (a.add j2) = some (.int .u16 x2) ∧ w'.cell? (a.add j3) = some (.int .u16 x3) ∧ w'.cell? (a.add j4) = some (.int .u16 x4)) [(0, 0), (1, 0), (2, 0), (3, 0), (4, 0), (5, 0), (6, 0), (7, 0), (8, 0), (9, 0), (10, 0), (11, 0), (12, 0), (13, 0), (14, 0), (15, 0), (16, 0), (17, 0), (18, 0), (19, 0), (20, 0), (21, 0), (22, 0), (23, 0), (24, 0), (25, 0), (26, 0), (27, 0), (28, 0), (29, 0), (30, 0), (31, 0), (32, 0), (33, 0), (34, 0), (35, 0), (36, 0), (37, 0), (38, 0), (39, 0), (40, 0), (41, 0), (42, 0), (43, 0), (44, 0), (45, 0), (46, 0), (47, 2), (48, 2)] [0, 0, 0, 6, 8, 16, 32, 65, 0, 0, 768, 1024, 2048, 4096, 8192, 16384, 0, 0, 131072, 327680, 524288, 1048576, 2097152, 0, 0, 16777216, 41943040, 67108864, 134217728, 268435456, 536870912, 0, 0, 4294967296, 10737418240, 17179869184, 34359738368, 68719476736, 0, 0, 549755813888, 1374389534720, 2199023255552, 4398046511104, 8796093022208, 17592186044416, 35322889011328, 0, 281474976710655] [0, 0, 0, 6, 8, 16, 32, 65, 0, 0, 768, 1024, 2048, 4096, 8192, 16384, 0, 0, 131072, 327680, 524288, 1048576, 2097152, 0, 0, 16777216, 41943040, 67108864, 134217728, 268435456, 536870912, 0, 0, 4294967296, 10737418240, 17179869184, 34359738368, 68719476736, 0, 0, 549755813888, 1374389534720, 2199023255552, 4398046511104, 8796093022208, 17592186044416, 35322889011328, 0, 211106232532992] (by kernel_rfl) (by kernel_rfl) (fun _ _ _ _ _ h => h) ?_ (fun hH => ?_)
        · exact ⟨by simp [go_sem, f0], by simp [go_sem, f1], by simp [go_sem, f2], by simp [go_sem, f3], by simp [go_sem, f4]⟩
        refine wpSeq_take (d := 20) (v := ?_) rfl rfl (by kernel_rfl) (fun w hS => ?_) ?_
        rotate_left
        · go_simp <;> with_reducible rfl
        dsimp only [List.set_cons_zero, List.set_cons_succ]
        refine wpSeq_take (d := 21) (v := ?_) rfl rfl (by kernel_rfl) (fun w hS => ?_) ?_
        rotate_left
        · go_simp <;> with_reducible rfl
        dsimp only [List.set_cons_zero, List.set_cons_succ]
        refine wpSeq_take (d := 22) (v := ?_) rfl rfl (by kernel_rfl) (fun w hS => ?_) ?_
        rotate_left
        · go_simp <;> with_reducible rfl
        dsimp only [List.set_cons_zero, List.set_cons_succ]
        refine wpSeq_take (d := 23) (v := ?_) rfl rfl (by kernel_rfl) (fun w hS => ?_) ?_
        rotate_left
        · go_simp <;> with_reducible rfl
        dsimp only [List.set_cons_zero, List.set_cons_succ]
        refine wpSeq_take (d := 24) (v := ?_) rfl rfl (by kernel_rfl) (fun w hS => ?_) ?_
        rotate_left
        · go_simp <;> with_reducible rfl
        dsimp only [List.set_cons_zero, List.set_cons_succ]
        refine wpSeq_take (d := 25) (v := ?_) rfl rfl (by kernel_rfl) (fun w hS => ?_) ?_
        rotate_left
        · go_simp <;> with_reducible rfl
        dsimp only [List.set_cons_zero, List.set_cons_succ]
        refine wpSeq_take (d := 26) (v := ?_) rfl rfl (by kernel_rfl) (fun w hS => ?_) ?_
        rotate_left
        · go_simp <;> with_reducible rfl
        dsimp only [List.set_cons_zero, List.set_cons_succ]
        refine wpSeq_take (d := 27) (v := ?_) rfl rfl (by kernel_rfl) (fun w hS => ?_) ?_
        rotate_left
        · go_simp <;> with_reducible rfl
        dsimp only [List.set_cons_zero, List.set_cons_succ]
        refine wpSeq_take (d := 28) (v := ?_) rfl rfl (by kernel_rfl) (fun w hS => ?_) ?_
        rotate_left
        · go_simp <;> with_reducible rfl
        dsimp only [List.set_cons_zero, List.set_cons_succ]
        refine wpSeq_take (d := 29) (v := ?_) rfl rfl (by kernel_rfl) (fun w hS => ?_) ?_
        rotate_left
        · go_simp <;> with_reducible rfl
        dsimp only [List.set_cons_zero, List.set_cons_succ]
        refine wpSeq_take (d := 30) (v := ?_) rfl rfl (by kernel_rfl) (fun w hS => ?_) ?_
        rotate_left
        · go_simp <;> with_reducible rfl
        dsimp only [List.set_cons_zero, List.set_cons_succ]
        refine wpSeq_take (d := 31) (v := ?_) rfl rfl (by kernel_rfl) (fun w hS => ?_) ?_
        rotate_left
        · go_simp <;> with_reducible rfl
        dsimp only [List.set_cons_zero, List.set_cons_succ]
        refine wpSeq_take (d := 32) (v := ?_) rfl rfl (by kernel_rfl) (fun w hS => ?_) ?_
        rotate_left
        · go_simp <;> with_reducible rfl
        dsimp only [List.set_cons_zero, List.set_cons_succ]
        refine wpSeq_take (d := 33) (v := ?_) rfl rfl (by kernel_rfl) (fun w hS => ?_) ?_
        rotate_left
        · go_simp <;> with_reducible rfl
        dsimp only [List.set_cons_zero, List.set_cons_succ]
        refine wpSeq_take (d := 34) (v := ?_) rfl rfl (by kernel_rfl) (fun w hS => ?_) ?_
        rotate_left
        · go_simp <;> with_reducible rfl
        dsimp only [List.set_cons_zero, List.set_cons_succ]
        refine wpSeq_take (d := 35) (v := ?_) rfl rfl (by kernel_rfl) (fun w hS => ?_) ?_
        rotate_left
        · go_simp <;> with_reducible rfl
        dsimp only [List.set_cons_zero, List.set_cons_succ]
        refine wpSeq_take (d := 36) (v := ?_) rfl rfl (by kernel_rfl) (fun w hS => ?_) ?_
        rotate_left
        · go_simp <;> with_reducible rfl
        dsimp only [List.set_cons_zero, List.set_cons_succ]
        refine wpSeq_take (d := 37) (v := ?_) rfl rfl (by kernel_rfl) (fun w hS => ?_) ?_
        rotate_left
        · go_simp <;> with_reducible rfl
        dsimp only [List.set_cons_zero, List.set_cons_succ]
        refine wpSeq_take (d := 38) (v := ?_) rfl rfl (by kernel_rfl) (fun w hS => ?_) ?_
        rotate_left
        · go_simp <;> with_reducible rfl
        dsimp only [List.set_cons_zero, List.set_cons_succ]
        refine wpSeq_take (d := 39) (v := ?_) rfl rfl (by kernel_rfl) (fun w hS => ?_) ?_
        rotate_left
        · go_simp <;> with_reducible rfl
        dsimp only [List.set_cons_zero, List.set_cons_succ]
        refine wpSeq_take (d := 40) (v := ?_) rfl rfl (by kernel_rfl) (fun w hS => ?_) ?_
        rotate_left
        · go_simp <;> with_reducible rfl
        dsimp only [List.set_cons_zero, List.set_cons_succ]
        refine wpSeq_take (d := 41) (v := ?_) rfl rfl (by kernel_rfl) (fun w hS => ?_) ?_
        rotate_left
        · go_simp <;> with_reducible rfl
        dsimp only [List.set_cons_zero, List.set_cons_succ]
        refine wpSeq_take (d := 42) (v := ?_) rfl rfl (by kernel_rfl) (fun w hS => ?_) ?_
        rotate_left
        · go_simp <;> with_reducible rfl
        dsimp only [List.set_cons_zero, List.set_cons_succ]
        refine wpSeq_take (d := 43) (v := ?_) rfl rfl (by kernel_rfl) (fun w hS => ?_) ?_
        rotate_left
        · go_simp <;> with_reducible rfl
        dsimp only [List.set_cons_zero, List.set_cons_succ]
        refine wpSeq_take (d := 44) (v := ?_) rfl rfl (by kernel_rfl) (fun w hS => ?_) ?_
        rotate_left
        · go_simp <;> with_reducible rfl
        dsimp only [List.set_cons_zero, List.set_cons_succ]
        refine wpSeq_take (d := 45) (v := ?_) rfl rfl (by kernel_rfl) (fun w hS => ?_) ?_
        rotate_left
        · go_simp <;> with_reducible rfl
        dsimp only [List.set_cons_zero, List.set_cons_succ]
        refine wpSeq_take (d := 46) (v := ?_) rfl rfl (by kernel_rfl) (fun w hS => ?_) ?_
        rotate_left
        · go_simp <;> with_reducible rfl
        dsimp only [List.set_cons_zero, List.set_cons_succ]
        refine wpSeq_take (d := 47) (v := ?_) rfl rfl (by kernel_rfl) (fun w hS => ?_) ?_
        rotate_left
        · go_simp <;> with_reducible rfl
        dsimp only [List.set_cons_zero, List.set_cons_succ]
        refine wpSeq_take (d := 48) (v := ?_) rfl rfl (by kernel_rfl) (fun w hS => ?_) ?_
        rotate_left
        · go_simp <;> with_reducible rfl
        dsimp only [List.set_cons_zero, List.set_cons_succ]
        refine wpSeq_take (d := 49) (v := ?_) rfl rfl (by kernel_rfl) (fun w hS => ?_) ?_
        rotate_left
        · go_simp <;> with_reducible rfl
        dsimp only [List.set_cons_zero, List.set_cons_succ]
        refine wpSeq_take (d := 50) (v := ?_) rfl rfl (by kernel_rfl) (fun w hS => ?_) ?_
        rotate_left
        · go_simp <;> with_reducible rfl
        dsimp only [List.set_cons_zero, List.set_cons_succ]
        refine wpSeq_take (d := 51) (v := ?_) rfl rfl (by kernel_rfl) (fun w hS => ?_) ?_
        rotate_left
        · go_simp <;> with_reducible rfl
        dsimp only [List.set_cons_zero, List.set_cons_succ]
        refine wpSeq_take (d := 52) (v := ?_) rfl rfl (by kernel_rfl) (fun w hS => ?_) ?_
        rotate_left
        · go_simp <;> with_reducible rfl
        dsimp only [List.set_cons_zero, List.set_cons_succ]
        refine wpSeq_take (d := 53) (v := ?_) rfl rfl (by kernel_rfl) (fun w hS => ?_) ?_
        rotate_left
        · go_simp <;> with_reducible rfl
        dsimp only [List.set_cons_zero, List.set_cons_succ]
        refine wpSeq_take (d := 54) (v := ?_) rfl rfl (by kernel_rfl) (fun w hS => ?_) ?_
        rotate_left
        · go_simp <;> with_reducible rfl
        dsimp only [List.set_cons_zero, List.set_cons_succ]
        refine wpSeq_take (d := 55) (v := ?_) rfl rfl (by kernel_rfl) (fun w hS => ?_) ?_
        rotate_left
        · go_simp <;> with_reducible rfl
        dsimp only [List.set_cons_zero, List.set_cons_succ]
        refine wpSeq_take (d := 56) (v := ?_) rfl rfl (by kernel_rfl) (fun w hS => ?_) ?_
        rotate_left
        · go_simp <;> with_reducible rfl
        dsimp only [List.set_cons_zero, List.set_cons_succ]
        refine wpSeq_take (d := 57) (v := ?_) rfl rfl (by kernel_rfl) (fun w hS => ?_) ?_
        rotate_left
        · go_simp <;> with_reducible rfl
        dsimp only [List.set_cons_zero, List.set_cons_succ]
        refine wpSeq_take (d := 58) (v := ?_) rfl rfl (by kernel_rfl) (fun w hS => ?_) ?_
        rotate_left
        · go_simp <;> with_reducible rfl
        dsimp only [List.set_cons_zero, List.set_cons_succ]
        refine wpSeq_take (d := 59) (v := ?_) rfl rfl (by kernel_rfl) (fun w hS => ?_) ?_
        rotate_left
        · go_simp <;> with_reducible rfl
        dsimp only [List.set_cons_zero, List.set_cons_succ]
        refine wpSeq_take (d := 60) (v := ?_) rfl rfl (by kernel_rfl) (fun w hS => ?_) ?_
        rotate_left
        · go_simp <;> with_reducible rfl
        dsimp only [List.set_cons_zero, List.set_cons_succ]
        refine wpSeq_take (d := 61) (v := ?_) rfl rfl (by kernel_rfl) (fun w hS => ?_) ?_
        rotate_left
        · go_simp <;> with_reducible rfl
        dsimp only [List.set_cons_zero, List.set_cons_succ]
        refine wpSeq_take (d := 62) (v := ?_) rfl rfl (by kernel_rfl) (fun w hS => ?_) ?_
        rotate_left
        · go_simp <;> with_reducible rfl
        dsimp only [List.set_cons_zero, List.set_cons_succ]
        refine wpSeq_take (d := 63) (v := ?_) rfl rfl (by kernel_rfl) (fun w hS => ?_) ?_
        rotate_left
        · go_simp <;> with_reducible rfl
        dsimp only [List.set_cons_zero, List.set_cons_succ]
        refine wpSeq_take (d := 64) (v := ?_) rfl rfl (by kernel_rfl) (fun w hS => ?_) ?_
        rotate_left
        · go_simp <;> with_reducible rfl
        dsimp only [List.set_cons_zero, List.set_cons_succ]
        refine wpSeq_take (d := 65) (v := ?_) rfl rfl (by kernel_rfl) (fun w hS => ?_) ?_
        rotate_left
        · go_simp <;> with_reducible rfl
        dsimp only [List.set_cons_zero, List.set_cons_succ]
        refine wpSeq_take (d := 66) (v := ?_) rfl rfl (by kernel_rfl) (fun w hS => ?_) ?_
        rotate_left
        · go_simp <;> with_reducible rfl
        dsimp only [List.set_cons_zero, List.set_cons_succ]
        refine wpSeq_call rfl (by kernel_rfl) (fun K hK => ?_)
        go_simp
        refine hK.out _ _ ?_ (fun hH => ?_)
        · first | exact ⟨((B.refl _).alloc _ _).keep hH.1, ((B.refl _).alloc _ _).keep hH.2.1, ((B.refl _).alloc _ _).keep hH.2.2.1, ((B.refl _).alloc _ _).keep hH.2.2.2.1, ((B.refl _).alloc _ _).keep hH.2.2.2.2⟩ | exact ⟨(((B.refl wr).alloc _ _).drew).keep f0, (((B.refl wr).alloc _ _).drew).keep f1, (((B.refl wr).alloc _ _).drew).keep f2, (((B.refl wr).alloc _ _).drew).keep f3, (((B.refl wr).alloc _ _).drew).keep f4⟩ | (simp [go_sem, *])
        clear hK
        refine wpSeq_call rfl (by kernel_rfl) (fun K hK => ?_)
        go_simp
        refine hK.out _ _ ?_ (fun hH => ?_)
        · first | exact ⟨((B.refl _).alloc _ _).keep hH.1, ((B.refl _).alloc _ _).keep hH.2.1, ((B.refl _).alloc _ _).keep hH.2.2.1, ((B.refl _).alloc _ _).keep hH.2.2.2.1, ((B.refl _).alloc _ _).keep hH.2.2.2.2⟩ | exact ⟨(((B.refl wr).alloc _ _).drew).keep f0, (((B.refl wr).alloc _ _).drew).keep f1, (((B.refl wr).alloc _ _).drew).keep f2, (((B.refl wr).alloc _ _).drew).keep f3, (((B.refl wr).alloc _ _).drew).keep f4⟩ | (simp [go_sem, *])
        clear hK
        refine wpSeq_done ?_
        refine NoPanic.normal ?_
        clear hH
        go_wp2_with (at_builtin; refine wpList_append_lies _ rfl _ _ 22 rfl w.heap.size 78 i0 _ 6 48 Try.underlying22 hi0 hz0 hz1 hz2 rfl (by omega) (.slice ao k c) k (flat l) rfl (((hown.alloc _).alloc _).drew) ⟨wr.heap.size + 1, 0, none⟩ 1 1 [.bool false, .int .i64 y0, .int .i64 y1, .int .i64 y3, .int .i64 y2, .int .i64 y4] rfl rfl (news_alloc (by simp)) (by simp [Value.oneCell']) (by omega) (by unfold maxLen; omega) (by omega) (by have := hb.below.size; simp; omega) (wr.heap.size + 1 + 1) (by simp) ?_; intro g cp w1 hown1 hgrow hat hlt)
        go_wp2
        go_roundw
        case rel =>
          obtain ⟨hl, _⟩ := HL.out
          refine ⟨k + 1, some ⟨g, 0, none⟩, cp, by omega, ?_, rfl, ⟨l ++ [⟨false, y0, y1, y3, y2, y4⟩], by simp [hl], ?_, ?_⟩, ?_⟩
          · obtain ⟨hj, hj'⟩ := HJ.out
            rw [show 5 * (k + 1) = j5 by omega]
          · intro s hs
            rcases List.mem_append.1 hs with h | h
            · exact hw s h
            · rw [List.mem_singleton.1 h]; exact HW.out
          · rw [flat_snoc]; exact hown1
          · exact (((hb.alloc _ _).alloc _ _).drew).grownBy hgrow (fun b hb' => (hown.lt b hb').1)
        case measure =>
          obtain ⟨hj, hj'⟩ := HJ.out
          simp [intOf]; omega
    · have HK : k ≤ 4 := hk
      have v4 : IntKind.i64.wrap ((j0 : Int) + 4) = ((j0 + 4 : Nat) : Int) ∧ (j0 : Int) + 4 = ((j0 + 4 : Nat) : Int) := ⟨by rw [wrapI (by omega) (by omega)]; omega, by omega⟩
      obtain ⟨v5, v6⟩ := v4
      by_cases hk0 : k = 0
      · subst hk0
        have g4 : decide (j0 + 4 < n) = false := decide_eq_false (by omega)
        obtain ⟨j4, e4⟩ : ∃ j, j0 + 4 = j := ⟨_, rfl⟩
        rw [e4] at v5 v6 g4
        have v7 : wrap64 (j4 : Int) = (j4 : Int) := by unfold wrap64; omega
        have b4 : (n : Int) ≤ (j4 : Int) := by omega
        have g4' : decide ((j4 : Int) < (n : Int)) = false := decide_eq_false (by omega)
        have cS := fun w => shape_any 0 (by decide) (by decide) w
        have HB := Lib.hid hb
        clear h4 hw hown hc hj0 hk HK e4 hb
        go_wp2_with fail
        refine (cS _).mono ?_
        rintro e w1 ⟨v, rfl, hv, hq⟩
        go_wp2
        go_ret
        exact ⟨v, _, rfl, hv, by decide, shape0_sides, HB.out.trans hq.b⟩
      · have hk0' : ((k : Int) == 0) = false := by rw [beq_eq_false_iff_ne]; omega
        have HS : Hid (IsSecs wr (.slice ao k c) l) := Lib.hid (secs_own hown hl (by omega) (fun s hs => (hw s hs).2.2.1))
        have HR := Lib.hid (And.intro (wild_right l (by omega) (by omega) hw) (fun s hs => (hw s hs).2.2))
        have HB := Lib.hid hb
        by_cases g : 5 * k + 4 < n
        · have g4 : decide (j0 + 4 < n) = true := decide_eq_true (by omega)
          have gk : decide ((k : Int) < 4) = false := decide_eq_false (by omega)
          obtain ⟨j4, e4⟩ : ∃ j, j0 + 4 = j := ⟨_, rfl⟩
          rw [e4] at v5 v6 g4
          have v7 : wrap64 (j4 : Int) = (j4 : Int) := by unfold wrap64; omega
          clear h4 hw hown hc hj0 hk HK e4 g hl hb hk0
          go_wp2
          go_ret
          exact ⟨_, l, rfl, HS.out, HR.out.1, HR.out.2, HB.out⟩
        · have g4 : decide (j0 + 4 < n) = false := decide_eq_false (by omega)
          obtain ⟨j4, e4⟩ : ∃ j, j0 + 4 = j := ⟨_, rfl⟩
          rw [e4] at v5 v6 g4
          have v7 : wrap64 (j4 : Int) = (j4 : Int) := by unfold wrap64; omega
          have b4 : (n : Int) ≤ (j4 : Int) := by omega
          clear h4 hw hown hc hj0 hk HK e4 g hl hb hk0
          go_wp2
          go_ret
          exact ⟨_, l, rfl, HS.out, HR.out.1, HR.out.2, HB.out⟩

set_option maxRecDepth 100000 in
theorem wild_sides (v : Value) (n : Nat) (rd : Bool) (w : World) (hv : IsU16 w v n) :
    Calls Try.prog 18 #[v, .bool rd] w (WildedS w) := by
  rcases hv with ⟨rfl, rfl⟩ | ⟨a, cap, rfl, h2, h3, h4⟩
  · have cS := fun w => shape_any 0 (by decide) (by decide) w
    go_enter Try.func18, Try.ntmps18
    go_wp2
    go_loop [5, 6] (fun sv iv => sv = .slice none 0 0 ∧ iv = .int .i64 0) (fun _ _ => 0)
    case atStart => exact ⟨rfl, rfl⟩
    case round =>
      obtain ⟨rfl, rfl⟩ := hrel
      go_wp2_with fail
      refine (cS _).mono ?_
      rintro e w1 ⟨v, rfl, hv, hq⟩
      go_wp2
      go_ret
      exact ⟨v, _, rfl, hv, by decide, shape0_sides, hq.b⟩
  · exact wild_row a cap n rd h2 h3 w h4
theorem wild_any (v : Value) (n : Nat) (rd : Bool) (w : World) (hv : IsU16 w v n) :
    Calls Try.prog 18 #[v, .bool rd] w (Wilded w) :=
  (wild_sides v n rd w hv).mono fun _ _ ⟨v, l, h1, h2, h3, _, h5⟩ => ⟨v, l, h1, h2, h3, h5⟩
end Go.Proofs.Ytkiepmfknbbeaaa
