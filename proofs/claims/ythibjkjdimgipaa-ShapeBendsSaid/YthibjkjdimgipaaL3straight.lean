/-
  Layer 3: the walk of ShapeStraight.
-/
import Derived.Test.YthibjkjdimgipaaL3ends
import Derived.Lib.MinMax
namespace Go.Proofs.Ythibjkjdimgipaa
open Go.RowKit

/-- What both ways of a side say together. -/
structure Sides (s : Sec) (a b c d : Int) : Prop where
  a1 : a ≤ c
  a2 : c ≤ a + 1
  b1 : b ≤ d
  b2 : d ≤ b + 1
  m1 : min s.a0 s.a1 ≤ a
  m2 : c ≤ max s.a0 s.a1
  m3 : min s.b0 s.b1 ≤ b
  m4 : d ≤ max s.b0 s.b1
  r1 : 0 ≤ a
  r2 : a ≤ 20000
  r3 : 0 ≤ b
  r4 : b ≤ 20000
theorem sides_of {s : Sec} (h : secOk s = true) {y : Int} (y1 : 0 ≤ y) (y2 : y ≤ s.h) : Sides s (sideOf s y false).1 (sideOf s y false).2 (sideOf s y true).1 (sideOf s y true).2 := by
  obtain ⟨h1, h2, h3, h4, h5, h6, h7, h8, h9, h10, hr⟩ := secOk_all h
  rw [sideOf_ok h, sideOf_ok h, show min (max y 0) s.h = y by omega]
  have A := side_ways (x0 := s.a0) (x1 := s.a1) h3 h4 (by omega) h6 y1 y2 h1
  have A0 := side_fits (x0 := s.a0) (x1 := s.a1) h3 h4 (by omega) h6 y1 y2 h1 false
  have A1 := side_fits (x0 := s.a0) (x1 := s.a1) h3 h4 (by omega) h6 y1 y2 h1 true
  have B := side_ways (x0 := s.b0) (x1 := s.b1) h7 h8 h9 h10 y1 y2 h1
  have B0 := side_fits (x0 := s.b0) (x1 := s.b1) h7 h8 h9 h10 y1 y2 h1 false
  have B1 := side_fits (x0 := s.b0) (x1 := s.b1) h7 h8 h9 h10 y1 y2 h1 true
  cases e : s.r
  · simp only [Bool.false_eq_true, if_false]
    exact ⟨A.1, A.2, B.1, B.2, A0.2.2.1, A1.2.2.2, B0.2.2.1, B1.2.2.2, by omega, by omega, by omega, by omega⟩
  · obtain ⟨e1, e2⟩ := hr e
    simp only [if_true]
    exact ⟨A.1, A.2, by omega, by omega, A0.2.2.1, A1.2.2.2, by omega, by omega, by omega, by omega, by omega, by omega⟩
theorem shape_right : ∀ m : Nat, rightS (shapeOf m) = true
  | 0 => by decide
  | 1 => by decide
  | 2 => by decide
  | 3 => by decide
  | 4 => by decide
  | n + 5 => by rw [show shapeOf (n + 5) = shapeOf 5 from rfl]; decide
theorem IsSecs.form {w : World} {v : Value} {l : List Sec} (h : IsSecs w v l) : ∃ ao n cap, v = .slice ao n cap := by
  rcases h with ⟨rfl, rfl⟩ | ⟨a, cap, rfl, _⟩
  · exact ⟨_, _, _, rfl⟩
  · exact ⟨_, _, _, rfl⟩
/-- Two right shapes stand in a block. -/
def TwoS (w : World) (b : Nat) : Prop := ∀ m : Nat, m < 2 → ∃ v l, w.cell? ⟨b, m, none⟩ = some v ∧ IsSecs w v l ∧ rightS l = true
theorem twoS_new (w : World) (t : TypeId) (x y : Value) (lx ly : List Sec) (hx : IsSecs w x lx) (hy : IsSecs w y ly) (rx : rightS lx = true) (ry : rightS ly = true) :
    TwoS (w.alloc (.cells #[x, y] t)) w.heap.size := by
  intro m hm
  rw [World.cell?_alloc_new]
  match m, hm with
  | 0, _ => exact ⟨_, lx, rfl, hx.keepB ((B.refl w).alloc _ _), rx⟩
  | 1, _ => exact ⟨_, ly, rfl, hy.keepB ((B.refl w).alloc _ _), ry⟩
theorem TwoS.keep {w w' : World} {b : Nat} (h : TwoS w b) (q : B w w') : TwoS w' b := fun m hm => by
  obtain ⟨v, l, h1, h2, h3⟩ := h m hm
  exact ⟨v, l, q.keep h1, h2.keepB q, h3⟩
theorem u16_wf {k : Int} (w : (Lit.int .u16 k).wf = true) : 0 ≤ k ∧ k ≤ 65535 := by
  simp [Lit.wf, IntKind.min, IntKind.max, IntKind.signed, IntKind.bits] at w
  omega
theorem u8_wf {k : Int} (w : (Lit.int .u8 k).wf = true) : 0 ≤ k ∧ k ≤ 255 := by
  simp [Lit.wf, IntKind.min, IntKind.max, IntKind.signed, IntKind.bits] at w
  omega

set_option maxRecDepth 100000 in
set_option maxHeartbeats 8000000 in
theorem straight_law (hS : SideC) (hR : RightC) (hH : HeightC) (k at_ : Int) (v : Value) (n : Nat) (rd : Bool) (hk : (Lit.int .u8 k).wf = true) (ha : (Lit.int .u16 at_).wf = true) (w : World) (hv : IsU16 w v n) :
    Calls Try.prog 3 #[.int .u8 k, .int .u16 at_, v, .bool rd] w fun e w' => e = .returned (.bool true) ∧ B w w' := by
  obtain ⟨k1, k2⟩ := u8_wf hk
  obtain ⟨t1, t2⟩ := u16_wf ha
  clear hk ha
  have c0 := known3_any hS hR hH
  have cW := fun w h => wild_any v n rd w h
  have cK := fun w => shape_any k k1 k2 w
  have rK := shape_right (k % 6).toNat
  generalize shapeOf (k % 6).toNat = lk at *
  obtain ⟨ao, cap0, rfl, hn⟩ := hv.form
  clear hR hH
  by_cases hn40 : 40 < n
  · have n40 : decide ((40 : Int) < (n : Int)) = true := decide_eq_true (by omega)
    clear hv
    go_enter Try.func3, Try.ntmps3
    go_wp2_with fail
    refine (c0 _).mono ?_
    rintro e w1 ⟨rfl, g⟩
    go_wp2
    go_ret
    exact ⟨rfl, g⟩
  have n40 : decide ((40 : Int) < (n : Int)) = false := decide_eq_false (by omega)
  have HV := Lib.hid hv
  clear hv
  go_enter Try.func3, Try.ntmps3
  go_wp2_with fail
  refine (c0 _).mono ?_
  rintro e w1 ⟨rfl, g⟩
  go_wp2_with fail
  refine (cK _).mono ?_
  rintro e w2 ⟨v1, rfl, hv1, q2⟩
  obtain ⟨o1, n1, p1, rfl⟩ := hv1.form
  replace g := g.trans q2.b
  go_wp2_with fail
  refine (cW _ (HV.out.keepB g)).mono ?_
  rintro e w3 ⟨v2, l, rfl, hl, hr, g2⟩
  obtain ⟨o2, n2, p2, rfl⟩ := hl.form
  replace g := g.trans g2
  have T0 := fun t => twoS_new w3 t (.slice o1 n1 p1) (.slice o2 n2 p2) lk l (hv1.keepB g2) hl rK hr
  clear g2 cW c0 HV cK q2 hv1 hl hr rK
  go_wp2
  have T2 := T0 25
  clear T0
  replace g := g.alloc #[.slice o1 n1 p1, .slice o2 n2 p2] 25
  generalize w3.alloc (.cells #[.slice o1 n1 p1, .slice o2 n2 p2] 25) = W1 at *
  generalize w3.heap.size = bb at *
  go_loopw [29] (fun i wr => ∃ m : Nat, m ≤ 2 ∧ i = .int .i64 m ∧ B W1 wr) (fun i _ => 2 - (intOf i).toNat)
  case atStart => exact ⟨0, Nat.zero_le _, rfl, B.refl _⟩
  case round =>
    obtain ⟨m, hm, rfl, g1⟩ := hrel
    by_cases hm2 : m < 2
    · have hmB : decide ((m : Int) < 2) = true := decide_eq_true (by omega)
      obtain ⟨vs, ls, hc, hsecs, hrs⟩ := (T2.keep g1) m hm2
      obtain ⟨hl1, _, hok⟩ := right_all hrs
      rcases hsecs with ⟨rfl, rfl⟩ | ⟨a, cap, rfl, h2, _, h4⟩
      · simp at hl1
      obtain ⟨hI, hs⟩ := h4 0 _ (List.getElem?_eq_getElem (by omega))
      have hoks := hok _ (List.getElem_mem (show 0 < ls.length by omega))
      generalize ls[0] = s at *
      rw [show a.add (0 * 6) = a from rfl] at hs
      have hlpos : (0 : Int) < (ls.length : Int) := by omega
      have hlpos' : decide (0 < ls.length) = true := decide_eq_true (by omega)
      clear h4 hok hrs
      obtain ⟨r, h, a0, b0, a1, b1⟩ := s
      obtain ⟨hh1, hh2, x1, x2, x3, x4, x5, x6, x7, x8, _⟩ := secOk_all hoks
      simp only at hh1 hh2 x1 x2 x3 x4 x5 x6 x7 x8
      obtain ⟨h', s1⟩ : ∃ z, h + 1 = z := ⟨_, rfl⟩
      obtain ⟨y, s2⟩ : ∃ z, at_ % h' = z := ⟨_, rfl⟩
      have s3 : at_.tmod h' = y := by rw [Int.tmod_eq_emod_of_nonneg t1]; exact s2
      have y1 : 0 ≤ y := by rw [← s2]; exact Int.emod_nonneg _ (by omega)
      have y2 : y ≤ h := by have := Int.emod_lt_of_pos at_ (show 0 < h' by omega); omega
      have s4 : 2 ≤ h' := by omega
      have s5 : h' ≤ 60001 := by omega
      have iy : I64 y := by unfold I64; omega
      have hsd := sides_of hoks y1 y2
      have c1 := fun w => hS r h a0 b0 a1 b1 y false w hI iy
      have c2 := fun w => hS r h a0 b0 a1 b1 y true w hI iy
      generalize (sideOf ⟨r, h, a0, b0, a1, b1⟩ y false).1 = A at *
      generalize (sideOf ⟨r, h, a0, b0, a1, b1⟩ y false).2 = D at *
      generalize (sideOf ⟨r, h, a0, b0, a1, b1⟩ y true).1 = C at *
      generalize (sideOf ⟨r, h, a0, b0, a1, b1⟩ y true).2 = E at *
      obtain ⟨d1, d2, d3, d4, d5, d6, d7, d8, d9, d10, d11, d12⟩ := hsd
      simp only at d5 d6 d7 d8
      obtain ⟨ma, ema⟩ : ∃ z, min a0 a1 = z := ⟨_, rfl⟩
      obtain ⟨xa, exa⟩ : ∃ z, max a0 a1 = z := ⟨_, rfl⟩
      obtain ⟨mb, emb⟩ : ∃ z, min b0 b1 = z := ⟨_, rfl⟩
      obtain ⟨xb, exb⟩ : ∃ z, max b0 b1 = z := ⟨_, rfl⟩
      rw [ema] at d5
      rw [exa] at d6
      rw [emb] at d7
      rw [exb] at d8
      obtain ⟨A', eA⟩ : ∃ z, A + 1 = z := ⟨_, rfl⟩
      obtain ⟨D', eD⟩ : ∃ z, D + 1 = z := ⟨_, rfl⟩
      have f1 : decide (C < A) = false := decide_eq_false (by omega)
      have f2 : decide (A' < C) = false := decide_eq_false (by omega)
      have f3 : decide (E < D) = false := decide_eq_false (by omega)
      have f4 : decide (D' < E) = false := decide_eq_false (by omega)
      have f5 : decide (A < ma) = false := decide_eq_false (by omega)
      have f6 : decide (xa < C) = false := decide_eq_false (by omega)
      have f7 : decide (D < mb) = false := decide_eq_false (by omega)
      have f8 : decide (xb < E) = false := decide_eq_false (by omega)
      have wA : IntKind.i64.wrap A' = A' := wrapI (by omega) (by omega)
      have wD : IntKind.i64.wrap D' = D' := wrapI (by omega) (by omega)
      obtain ⟨z0, z1, z2, z3, z4, z5⟩ := hs
      simp only at z0 z1 z2 z3 z4 z5
      clear x1 x2 x3 x4 x5 x6 x7 x8 hoks hI iy d1 d2 d3 d4 d5 d6 d7 d8 h2
      go_wp2_with fail
      refine (c1 _).mono ?_
      rintro e w5 ⟨rfl, q5⟩
      have o0 := q5.keep (p := ⟨wr.heap.size, 0, none⟩) (v := .bool r) (by simp [go_sem])
      have o1 := q5.keep (p := ⟨wr.heap.size, 1, none⟩) (v := .int .i64 h) (by simp [go_sem])
      have o2 := q5.keep (p := ⟨wr.heap.size, 2, none⟩) (v := .int .i64 a0) (by simp [go_sem])
      have o3 := q5.keep (p := ⟨wr.heap.size, 3, none⟩) (v := .int .i64 b0) (by simp [go_sem])
      have o4 := q5.keep (p := ⟨wr.heap.size, 4, none⟩) (v := .int .i64 a1) (by simp [go_sem])
      have o5 := q5.keep (p := ⟨wr.heap.size, 5, none⟩) (v := .int .i64 b1) (by simp [go_sem])
      have hz : wr.heap.size < w5.heap.size := World.block_lt_of_cell? _ _ o0
      have g3 := (g1.alloc _ _).trans q5
      clear q5 c1 z0 z1 z2 z3 z4 z5 hc
      go_wp2_with fail
      refine (c2 _).mono ?_
      rintro e w6 ⟨rfl, q6⟩
      replace o0 := q6.keep o0
      replace o1 := q6.keep o1
      replace o2 := q6.keep o2
      replace o3 := q6.keep o3
      replace o4 := q6.keep o4
      replace o5 := q6.keep o5
      replace hz : wr.heap.size < w6.heap.size := World.block_lt_of_cell? _ _ o0
      replace g3 := g3.trans q6
      clear q6 c2
      go_wp2
      go_roundw
      case rel => exact ⟨m + 1, by omega, by go_num, g3⟩
      case measure => simp [intOf]; omega
    · have hmB : decide ((m : Int) < 2) = false := decide_eq_false (by omega)
      go_wp2
      go_ret
      exact ⟨rfl, g.trans g1⟩
end Go.Proofs.Ythibjkjdimgipaa
