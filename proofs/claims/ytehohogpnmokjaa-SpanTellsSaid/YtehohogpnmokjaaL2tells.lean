/-
  Layer 2: the walk of SpanTells.
-/
import Derived.Test.YtehohogpnmokjaaL2a
import Derived.Test.YtehohogpnmokjaaSref
import Derived.Test.YtehohogpnmokjaaReg
import Derived.Lib.MinMax
namespace Go.Proofs.Ytehohogpnmokjaa
open Go.RowKit

/-- Twelve numbers of 64 bits stand in a block. -/
def Twelve (w : World) (b : Nat) : Prop := ∀ k : Nat, k < 12 → ∃ x, I64 x ∧ w.cell? ⟨b, k, none⟩ = some (.int .i64 x)
theorem twelve_of {w : World} {t : TypeId} {x0 x1 x2 x3 x4 x5 x6 x7 x8 x9 x10 x11 : Int} (h0 : I64 x0) (h1 : I64 x1) (h2 : I64 x2) (h3 : I64 x3) (h4 : I64 x4) (h5 : I64 x5) (h6 : I64 x6) (h7 : I64 x7) (h8 : I64 x8) (h9 : I64 x9) (h10 : I64 x10) (h11 : I64 x11) :
    Twelve (w.alloc (.cells #[.int .i64 x0, .int .i64 x1, .int .i64 x2, .int .i64 x3, .int .i64 x4, .int .i64 x5, .int .i64 x6, .int .i64 x7, .int .i64 x8, .int .i64 x9, .int .i64 x10, .int .i64 x11] t)) w.heap.size := by
  intro k hk
  rw [World.cell?_alloc_new]
  match k, hk with
  | 0, _ => exact ⟨_, h0, rfl⟩
  | 1, _ => exact ⟨_, h1, rfl⟩
  | 2, _ => exact ⟨_, h2, rfl⟩
  | 3, _ => exact ⟨_, h3, rfl⟩
  | 4, _ => exact ⟨_, h4, rfl⟩
  | 5, _ => exact ⟨_, h5, rfl⟩
  | 6, _ => exact ⟨_, h6, rfl⟩
  | 7, _ => exact ⟨_, h7, rfl⟩
  | 8, _ => exact ⟨_, h8, rfl⟩
  | 9, _ => exact ⟨_, h9, rfl⟩
  | 10, _ => exact ⟨_, h10, rfl⟩
  | 11, _ => exact ⟨_, h11, rfl⟩
theorem Twelve.keep {w w' : World} {b : Nat} (h : Twelve w b) (hb : b < w.heap.size) (q : Q w w') : Twelve w' b := fun k hk => by
  obtain ⟨x, hx, hc⟩ := h k hk
  exact ⟨x, hx, (q.below.cell (p := ⟨b, k, none⟩) hb).trans hc⟩


theorem shr3 (a : Int) (h : I64 a) : ∃ v, a / 8 = v ∧ I64 v := ⟨_, rfl, by unfold I64 at *; omega⟩
theorem max_I64 (a b : Int) (h : I64 a) (h' : I64 b) : ∃ v, max a b = v ∧ I64 v := ⟨_, rfl, by unfold I64 at *; omega⟩

set_option maxRecDepth 100000 in
set_option maxHeartbeats 8000000 in
theorem tells2_law (al ah bl bh by_ v : Int) (hal : (Lit.int .i64 al).wf = true) (hah : (Lit.int .i64 ah).wf = true) (hbl : (Lit.int .i64 bl).wf = true) (hbh : (Lit.int .i64 bh).wf = true) (hby : (Lit.int .i64 by_).wf = true) (hv : (Lit.int .i64 v).wf = true) (w : World) :
    Calls Try.prog 3 #[.agg #[.int .i64 al, .int .i64 ah], .agg #[.int .i64 bl, .int .i64 bh], .int .i64 by_, .int .i64 v] w fun e w' => e = .returned (.bool true) ∧ Q w w' := by
  replace hal := i64_wf hal
  replace hah := i64_wf hah
  replace hbl := i64_wf hbl
  replace hbh := i64_wf hbh
  replace hby := i64_wf hby
  replace hv := i64_wf hv
  obtain ⟨xl, exl, ixl⟩ := shr3 al hal
  obtain ⟨xh, exh, ixh⟩ := shr3 ah hah
  obtain ⟨yl, eyl, iyl⟩ := shr3 bl hbl
  obtain ⟨yh, eyh, iyh⟩ := shr3 bh hbh
  obtain ⟨xm, exm, ixm⟩ := max_I64 xl xh ixl ixh
  obtain ⟨ym, eym, iym⟩ := max_I64 yl yh iyl iyh
  obtain ⟨am, eam, iam⟩ := max_I64 al ah hal hah
  obtain ⟨bm, ebm, ibm⟩ := max_I64 bl bh hbl hbh
  go_enter Try.func3, Try.ntmps3
  go_wp2_with fail
  refine (known2_any _).mono ?_
  rintro e w1 ⟨rfl, h⟩
  have a0 := h.keep (p := ⟨w.heap.size, 0, none⟩) (v := .int .i64 al) (by simp [go_sem])
  have a1 := h.keep (p := ⟨w.heap.size, 1, none⟩) (v := .int .i64 ah) (by simp [go_sem])
  have b0 := h.keep (p := ⟨w.heap.size + 1, 0, none⟩) (v := .int .i64 bl) (by simp [go_sem])
  have b1 := h.keep (p := ⟨w.heap.size + 1, 1, none⟩) (v := .int .i64 bh) (by simp [go_sem])
  replace h : Q w w1 := by first | exact h | exact ((Q.refl w).alloc _ _).trans h | exact (((Q.refl w).alloc _ _).alloc _ _).trans h | exact ((((Q.refl w).alloc _ _).alloc _ _).alloc _ _).trans h | exact (((((Q.refl w).alloc _ _).alloc _ _).alloc _ _).alloc _ _).trans h | exact ((Q.refl w).drewN _).trans h | exact (((Q.refl w).alloc _ _).drewN _).trans h | exact ((((Q.refl w).alloc _ _).alloc _ _).drewN _).trans h | exact (((((Q.refl w).alloc _ _).alloc _ _).alloc _ _).drewN _).trans h | exact ((((((Q.refl w).alloc _ _).alloc _ _).alloc _ _).alloc _ _).drewN _).trans h | exact (((Q.refl w).drewN _).drewN _).trans h | exact ((((Q.refl w).alloc _ _).drewN _).drewN _).trans h | exact (((((Q.refl w).alloc _ _).alloc _ _).drewN _).drewN _).trans h | exact ((((((Q.refl w).alloc _ _).alloc _ _).alloc _ _).drewN _).drewN _).trans h | exact (((((((Q.refl w).alloc _ _).alloc _ _).alloc _ _).alloc _ _).drewN _).drewN _).trans h
  have az : w.heap.size < w1.heap.size := World.block_lt_of_cell? _ _ a0
  have bz : w.heap.size + 1 < w1.heap.size := World.block_lt_of_cell? _ _ b0
  have g := h
  clear h
  go_wp2
  have N12 := twelve_of (w := w1) (t := 25) hal hah hbl hbh ixl ixm iyl iym hal iam hbl ibm
  replace g := g.alloc #[.int .i64 al, .int .i64 ah, .int .i64 bl, .int .i64 bh, .int .i64 xl, .int .i64 xm, .int .i64 yl, .int .i64 ym, .int .i64 al, .int .i64 am, .int .i64 bl, .int .i64 bm] 25
  have hz := World.size_alloc w1 (.cells #[.int .i64 al, .int .i64 ah, .int .i64 bl, .int .i64 bh, .int .i64 xl, .int .i64 xm, .int .i64 yl, .int .i64 ym, .int .i64 al, .int .i64 am, .int .i64 bl, .int .i64 bm] 25)
  generalize w1.alloc (.cells #[.int .i64 al, .int .i64 ah, .int .i64 bl, .int .i64 bh, .int .i64 xl, .int .i64 xm, .int .i64 yl, .int .i64 ym, .int .i64 al, .int .i64 am, .int .i64 bl, .int .i64 bm] 25) = W0 at *
  generalize w1.heap.size = b0 at *
  have hb0 : b0 < W0.heap.size := by omega
  clear hz
  go_loopw [70] (fun i wr => ∃ n : Nat, n ≤ 3 ∧ i = .int .i64 n ∧ Q W0 wr) (fun i _ => 3 - (intOf i).toNat)
  case atStart => exact ⟨0, Nat.zero_le _, rfl, Q.refl _⟩
  case round =>
    obtain ⟨n, hn, rfl, hq⟩ := hrel
    by_cases hl : n < 3
    · obtain ⟨p0, j0, g0⟩ := (N12.keep hb0 hq) (n * 4) (by omega)
      obtain ⟨p1, j1, g1⟩ := (N12.keep hb0 hq) (n * 4 + 1) (by omega)
      obtain ⟨p2, j2, g2⟩ := (N12.keep hb0 hq) (n * 4 + 2) (by omega)
      obtain ⟨p3, j3, g3⟩ := (N12.keep hb0 hq) (n * 4 + 3) (by omega)
      have hlB : decide ((n : Int) < 3) = true := decide_eq_true (by omega)
      have c1 := fun w => sadd_any p0 p1 p2 p3 j0 j1 j2 j3 w
      have c2 := fun w => rsadd_any p0 p1 p2 p3 j0 j1 j2 j3 w
      have c3 := fun w => ssub_any p0 p1 p2 p3 j0 j1 j2 j3 w
      have c4 := fun w => rssub_any p0 p1 p2 p3 j0 j1 j2 j3 w
      have c5 := fun w => swide_any p0 p1 by_ j0 j1 hby w
      have c6 := fun w => rswide_any p0 p1 by_ j0 j1 hby w
      have d1 := fun w => right_any p0 p1 w
      have d2 := fun w => rright_any p0 p1 w
      have d3 := fun w => has_any p0 p1 v j0 j1 hv w
      have d4 := fun w => rhas_any p0 p1 v w
      have d5 := fun w => join_any p0 p1 p2 p3 w
      have d6 := fun w => rjoin_any p0 p1 p2 p3 w
      have d7 := fun w => least_any p0 p1 v w
      have d8 := fun w => rleast_any p0 p1 v w
      generalize spV (decide (p0 ≤ p1) && decide (p2 ≤ p3)) (p0 + p2) (p1 + p3) (p0 + p2) = X1 at *
      generalize spV (decide (p0 ≤ p1) && decide (p2 ≤ p3)) (p0 + p2) (p1 + p3) (p1 + p3) = Y1 at *
      generalize spE (decide (p0 ≤ p1) && decide (p2 ≤ p3)) (p0 + p2) (p1 + p3) = Z1 at *
      generalize spV (decide (p0 ≤ p1) && decide (p2 ≤ p3)) (p0 - p3) (p1 - p2) (p0 - p3) = X2 at *
      generalize spV (decide (p0 ≤ p1) && decide (p2 ≤ p3)) (p0 - p3) (p1 - p2) (p1 - p2) = Y2 at *
      generalize spE (decide (p0 ≤ p1) && decide (p2 ≤ p3)) (p0 - p3) (p1 - p2) = Z2 at *
      generalize spV (decide (p0 ≤ p1) && decide (0 ≤ by_)) (p0 - by_) (p1 + by_) (p0 - by_) = X3 at *
      generalize spV (decide (p0 ≤ p1) && decide (0 ≤ by_)) (p0 - by_) (p1 + by_) (p1 + by_) = Y3 at *
      generalize spE (decide (p0 ≤ p1) && decide (0 ≤ by_)) (p0 - by_) (p1 + by_) = Z3 at *
      generalize (decide (p0 ≤ v) && decide (v ≤ p1)) = hB at *
      generalize decide (p0 ≤ p1) = rB at *
      generalize min p0 p2 = jl at *
      generalize max p1 p3 = jh at *
      generalize max p0 v = ll at *
      generalize max p1 v = lh at *
      clear j0 j1 j2 j3
      have g := hq
      go_wp2_with fail
      refine (c1 _).mono ?_
      rintro e w2 ⟨rfl, h⟩
      have pc0 := h.keep (p := ⟨wr.heap.size, 0, none⟩) (v := .int .i64 p0) (by simp [go_sem])
      have pc1 := h.keep (p := ⟨wr.heap.size, 1, none⟩) (v := .int .i64 p1) (by simp [go_sem])
      have pc2 := h.keep (p := ⟨wr.heap.size, 2, none⟩) (v := .int .i64 p2) (by simp [go_sem])
      have pc3 := h.keep (p := ⟨wr.heap.size, 3, none⟩) (v := .int .i64 p3) (by simp [go_sem])
      replace h : Q wr w2 := by first | exact h | exact ((Q.refl wr).alloc _ _).trans h | exact (((Q.refl wr).alloc _ _).alloc _ _).trans h | exact ((((Q.refl wr).alloc _ _).alloc _ _).alloc _ _).trans h | exact (((((Q.refl wr).alloc _ _).alloc _ _).alloc _ _).alloc _ _).trans h | exact ((Q.refl wr).drewN _).trans h | exact (((Q.refl wr).alloc _ _).drewN _).trans h | exact ((((Q.refl wr).alloc _ _).alloc _ _).drewN _).trans h | exact (((((Q.refl wr).alloc _ _).alloc _ _).alloc _ _).drewN _).trans h | exact ((((((Q.refl wr).alloc _ _).alloc _ _).alloc _ _).alloc _ _).drewN _).trans h | exact (((Q.refl wr).drewN _).drewN _).trans h | exact ((((Q.refl wr).alloc _ _).drewN _).drewN _).trans h | exact (((((Q.refl wr).alloc _ _).alloc _ _).drewN _).drewN _).trans h | exact ((((((Q.refl wr).alloc _ _).alloc _ _).alloc _ _).drewN _).drewN _).trans h | exact (((((((Q.refl wr).alloc _ _).alloc _ _).alloc _ _).alloc _ _).drewN _).drewN _).trans h
      have pcz : wr.heap.size < w2.heap.size := World.block_lt_of_cell? _ _ pc0
      replace g := g.trans h
      clear h
      clear c1
      go_wp2_with fail
      refine (c2 _).mono ?_
      rintro e w3 ⟨rfl, h⟩
      have x0 := h.keep (p := ⟨w2.heap.size, 0, none⟩) (v := .int .i64 X1) (by simp [go_sem])
      have x1 := h.keep (p := ⟨w2.heap.size, 1, none⟩) (v := .int .i64 Y1) (by simp [go_sem])
      replace h : Q w2 w3 := by first | exact h | exact ((Q.refl w2).alloc _ _).trans h | exact (((Q.refl w2).alloc _ _).alloc _ _).trans h | exact ((((Q.refl w2).alloc _ _).alloc _ _).alloc _ _).trans h | exact (((((Q.refl w2).alloc _ _).alloc _ _).alloc _ _).alloc _ _).trans h | exact ((Q.refl w2).drewN _).trans h | exact (((Q.refl w2).alloc _ _).drewN _).trans h | exact ((((Q.refl w2).alloc _ _).alloc _ _).drewN _).trans h | exact (((((Q.refl w2).alloc _ _).alloc _ _).alloc _ _).drewN _).trans h | exact ((((((Q.refl w2).alloc _ _).alloc _ _).alloc _ _).alloc _ _).drewN _).trans h | exact (((Q.refl w2).drewN _).drewN _).trans h | exact ((((Q.refl w2).alloc _ _).drewN _).drewN _).trans h | exact (((((Q.refl w2).alloc _ _).alloc _ _).drewN _).drewN _).trans h | exact ((((((Q.refl w2).alloc _ _).alloc _ _).alloc _ _).drewN _).drewN _).trans h | exact (((((((Q.refl w2).alloc _ _).alloc _ _).alloc _ _).alloc _ _).drewN _).drewN _).trans h
      replace pc0 := h.keep pc0
      replace pc1 := h.keep pc1
      replace pc2 := h.keep pc2
      replace pc3 := h.keep pc3
      replace pcz : wr.heap.size < w3.heap.size := World.block_lt_of_cell? _ _ pc0
      have xz : w2.heap.size < w3.heap.size := World.block_lt_of_cell? _ _ x0
      replace g := g.trans h
      clear h
      clear c2
      go_wp2_with fail
      refine (c3 _).mono ?_
      rintro e w4 ⟨rfl, h⟩
      have y0 := h.keep (p := ⟨w3.heap.size, 0, none⟩) (v := .int .i64 X1) (by simp [go_sem])
      have y1 := h.keep (p := ⟨w3.heap.size, 1, none⟩) (v := .int .i64 Y1) (by simp [go_sem])
      replace h : Q w3 w4 := by first | exact h | exact ((Q.refl w3).alloc _ _).trans h | exact (((Q.refl w3).alloc _ _).alloc _ _).trans h | exact ((((Q.refl w3).alloc _ _).alloc _ _).alloc _ _).trans h | exact (((((Q.refl w3).alloc _ _).alloc _ _).alloc _ _).alloc _ _).trans h | exact ((Q.refl w3).drewN _).trans h | exact (((Q.refl w3).alloc _ _).drewN _).trans h | exact ((((Q.refl w3).alloc _ _).alloc _ _).drewN _).trans h | exact (((((Q.refl w3).alloc _ _).alloc _ _).alloc _ _).drewN _).trans h | exact ((((((Q.refl w3).alloc _ _).alloc _ _).alloc _ _).alloc _ _).drewN _).trans h | exact (((Q.refl w3).drewN _).drewN _).trans h | exact ((((Q.refl w3).alloc _ _).drewN _).drewN _).trans h | exact (((((Q.refl w3).alloc _ _).alloc _ _).drewN _).drewN _).trans h | exact ((((((Q.refl w3).alloc _ _).alloc _ _).alloc _ _).drewN _).drewN _).trans h | exact (((((((Q.refl w3).alloc _ _).alloc _ _).alloc _ _).alloc _ _).drewN _).drewN _).trans h
      replace pc0 := h.keep pc0
      replace pc1 := h.keep pc1
      replace pc2 := h.keep pc2
      replace pc3 := h.keep pc3
      replace x0 := h.keep x0
      replace x1 := h.keep x1
      replace pcz : wr.heap.size < w4.heap.size := World.block_lt_of_cell? _ _ pc0
      replace xz : w2.heap.size < w4.heap.size := World.block_lt_of_cell? _ _ x0
      have yz : w3.heap.size < w4.heap.size := World.block_lt_of_cell? _ _ y0
      replace g := g.trans h
      clear h
      clear c3
      go_wp2_with fail
      refine (c4 _).mono ?_
      rintro e w5 ⟨rfl, h⟩
      have z0 := h.keep (p := ⟨w4.heap.size, 0, none⟩) (v := .int .i64 X2) (by simp [go_sem])
      have z1 := h.keep (p := ⟨w4.heap.size, 1, none⟩) (v := .int .i64 Y2) (by simp [go_sem])
      replace h : Q w4 w5 := by first | exact h | exact ((Q.refl w4).alloc _ _).trans h | exact (((Q.refl w4).alloc _ _).alloc _ _).trans h | exact ((((Q.refl w4).alloc _ _).alloc _ _).alloc _ _).trans h | exact (((((Q.refl w4).alloc _ _).alloc _ _).alloc _ _).alloc _ _).trans h | exact ((Q.refl w4).drewN _).trans h | exact (((Q.refl w4).alloc _ _).drewN _).trans h | exact ((((Q.refl w4).alloc _ _).alloc _ _).drewN _).trans h | exact (((((Q.refl w4).alloc _ _).alloc _ _).alloc _ _).drewN _).trans h | exact ((((((Q.refl w4).alloc _ _).alloc _ _).alloc _ _).alloc _ _).drewN _).trans h | exact (((Q.refl w4).drewN _).drewN _).trans h | exact ((((Q.refl w4).alloc _ _).drewN _).drewN _).trans h | exact (((((Q.refl w4).alloc _ _).alloc _ _).drewN _).drewN _).trans h | exact ((((((Q.refl w4).alloc _ _).alloc _ _).alloc _ _).drewN _).drewN _).trans h | exact (((((((Q.refl w4).alloc _ _).alloc _ _).alloc _ _).alloc _ _).drewN _).drewN _).trans h
      replace pc0 := h.keep pc0
      replace pc1 := h.keep pc1
      replace pc2 := h.keep pc2
      replace pc3 := h.keep pc3
      replace x0 := h.keep x0
      replace x1 := h.keep x1
      replace y0 := h.keep y0
      replace y1 := h.keep y1
      replace pcz : wr.heap.size < w5.heap.size := World.block_lt_of_cell? _ _ pc0
      replace xz : w2.heap.size < w5.heap.size := World.block_lt_of_cell? _ _ x0
      replace yz : w3.heap.size < w5.heap.size := World.block_lt_of_cell? _ _ y0
      have zz : w4.heap.size < w5.heap.size := World.block_lt_of_cell? _ _ z0
      replace g := g.trans h
      clear h
      clear c4
      go_wp2_with fail
      refine (c5 _).mono ?_
      rintro e w6 ⟨rfl, h⟩
      have u0 := h.keep (p := ⟨w5.heap.size, 0, none⟩) (v := .int .i64 X2) (by simp [go_sem])
      have u1 := h.keep (p := ⟨w5.heap.size, 1, none⟩) (v := .int .i64 Y2) (by simp [go_sem])
      replace h : Q w5 w6 := by first | exact h | exact ((Q.refl w5).alloc _ _).trans h | exact (((Q.refl w5).alloc _ _).alloc _ _).trans h | exact ((((Q.refl w5).alloc _ _).alloc _ _).alloc _ _).trans h | exact (((((Q.refl w5).alloc _ _).alloc _ _).alloc _ _).alloc _ _).trans h | exact ((Q.refl w5).drewN _).trans h | exact (((Q.refl w5).alloc _ _).drewN _).trans h | exact ((((Q.refl w5).alloc _ _).alloc _ _).drewN _).trans h | exact (((((Q.refl w5).alloc _ _).alloc _ _).alloc _ _).drewN _).trans h | exact ((((((Q.refl w5).alloc _ _).alloc _ _).alloc _ _).alloc _ _).drewN _).trans h | exact (((Q.refl w5).drewN _).drewN _).trans h | exact ((((Q.refl w5).alloc _ _).drewN _).drewN _).trans h | exact (((((Q.refl w5).alloc _ _).alloc _ _).drewN _).drewN _).trans h | exact ((((((Q.refl w5).alloc _ _).alloc _ _).alloc _ _).drewN _).drewN _).trans h | exact (((((((Q.refl w5).alloc _ _).alloc _ _).alloc _ _).alloc _ _).drewN _).drewN _).trans h
      replace pc0 := h.keep pc0
      replace pc1 := h.keep pc1
      replace pc2 := h.keep pc2
      replace pc3 := h.keep pc3
      replace x0 := h.keep x0
      replace x1 := h.keep x1
      replace y0 := h.keep y0
      replace y1 := h.keep y1
      replace z0 := h.keep z0
      replace z1 := h.keep z1
      replace pcz : wr.heap.size < w6.heap.size := World.block_lt_of_cell? _ _ pc0
      replace xz : w2.heap.size < w6.heap.size := World.block_lt_of_cell? _ _ x0
      replace yz : w3.heap.size < w6.heap.size := World.block_lt_of_cell? _ _ y0
      replace zz : w4.heap.size < w6.heap.size := World.block_lt_of_cell? _ _ z0
      have uz : w5.heap.size < w6.heap.size := World.block_lt_of_cell? _ _ u0
      replace g := g.trans h
      clear h
      clear c5
      go_wp2_with fail
      refine (c6 _).mono ?_
      rintro e w7 ⟨rfl, h⟩
      have s0 := h.keep (p := ⟨w6.heap.size, 0, none⟩) (v := .int .i64 X3) (by simp [go_sem])
      have s1 := h.keep (p := ⟨w6.heap.size, 1, none⟩) (v := .int .i64 Y3) (by simp [go_sem])
      replace h : Q w6 w7 := by first | exact h | exact ((Q.refl w6).alloc _ _).trans h | exact (((Q.refl w6).alloc _ _).alloc _ _).trans h | exact ((((Q.refl w6).alloc _ _).alloc _ _).alloc _ _).trans h | exact (((((Q.refl w6).alloc _ _).alloc _ _).alloc _ _).alloc _ _).trans h | exact ((Q.refl w6).drewN _).trans h | exact (((Q.refl w6).alloc _ _).drewN _).trans h | exact ((((Q.refl w6).alloc _ _).alloc _ _).drewN _).trans h | exact (((((Q.refl w6).alloc _ _).alloc _ _).alloc _ _).drewN _).trans h | exact ((((((Q.refl w6).alloc _ _).alloc _ _).alloc _ _).alloc _ _).drewN _).trans h | exact (((Q.refl w6).drewN _).drewN _).trans h | exact ((((Q.refl w6).alloc _ _).drewN _).drewN _).trans h | exact (((((Q.refl w6).alloc _ _).alloc _ _).drewN _).drewN _).trans h | exact ((((((Q.refl w6).alloc _ _).alloc _ _).alloc _ _).drewN _).drewN _).trans h | exact (((((((Q.refl w6).alloc _ _).alloc _ _).alloc _ _).alloc _ _).drewN _).drewN _).trans h
      replace pc0 := h.keep pc0
      replace pc1 := h.keep pc1
      replace pc2 := h.keep pc2
      replace pc3 := h.keep pc3
      replace x0 := h.keep x0
      replace x1 := h.keep x1
      replace y0 := h.keep y0
      replace y1 := h.keep y1
      replace z0 := h.keep z0
      replace z1 := h.keep z1
      replace u0 := h.keep u0
      replace u1 := h.keep u1
      replace pcz : wr.heap.size < w7.heap.size := World.block_lt_of_cell? _ _ pc0
      replace xz : w2.heap.size < w7.heap.size := World.block_lt_of_cell? _ _ x0
      replace yz : w3.heap.size < w7.heap.size := World.block_lt_of_cell? _ _ y0
      replace zz : w4.heap.size < w7.heap.size := World.block_lt_of_cell? _ _ z0
      replace uz : w5.heap.size < w7.heap.size := World.block_lt_of_cell? _ _ u0
      have sz : w6.heap.size < w7.heap.size := World.block_lt_of_cell? _ _ s0
      replace g := g.trans h
      clear h
      clear c6
      go_wp2_with fail
      refine wp_region_noPanic ?_
      refine wp_region_seq (S := fun w' => w'.cell? ⟨wr.heap.size, 0, none⟩ = some (.int .i64 p0) ∧ w'.cell? ⟨wr.heap.size, 1, none⟩ = some (.int .i64 p1) ∧ w'.cell? ⟨wr.heap.size, 2, none⟩ = some (.int .i64 p2) ∧ w'.cell? ⟨wr.heap.size, 3, none⟩ = some (.int .i64 p3) ∧ Q W0 w') [(0, 0), (1, 0), (3, 0), (4, 0), (2, 2), (5, 2), (6, 0), (7, 0), (8, 0), (9, 0), (10, 0), (12, 0), (13, 0), (14, 0), (11, 2), (15, 2), (16, 0), (17, 0), (18, 0), (19, 0), (20, 0), (21, 0), (22, 0), (24, 0), (25, 0), (26, 0), (27, 0), (23, 2), (28, 2), (29, 0), (30, 0), (31, 0), (32, 0), (33, 0), (34, 0), (36, 0), (37, 0), (38, 0), (35, 2), (39, 2), (40, 0), (41, 0)] [0, 1, 2, 0, 8, 20, 36, 96, 128, 384, 128, 1664, 128, 4224, 128, 26752, 34944, 65664, 163840, 262144, 786432, 262144, 2359296, 5505024, 262144, 17039360, 262144, 67371008, 176422912, 277086208, 537133056, 1342177280, 2147483648, 6442450944, 2147483648, 27917287424, 2147483648, 70866960384, 2147483648, 448824082432, 586263035904, 1101659111424] [0, 1, 2, 0, 8, 16, 36, 64, 128, 384, 128, 1664, 128, 4224, 128, 24704, 34944, 65664, 131072, 262144, 786432, 262144, 2359296, 5505024, 262144, 17039360, 262144, 67371008, 168034304, 277086208, 537133056, 1073741824, 2147483648, 6442450944, 2147483648, 27917287424, 2147483648, 70866960384, 2147483648, 414464344064, 586263035904, 1101659111424] (by kernel_rfl) (by kernel_rfl) (fun _ _ _ _ _ h => h) ?_ (fun hH => ?_)
      · exact ⟨by simp [go_sem, *], by simp [go_sem, *], by simp [go_sem, *], by simp [go_sem, *], by first | exact (g.alloc _ _).drew | exact g.drew⟩
      refine wpSeq_take (d := 148) (v := ?_) rfl rfl (by kernel_rfl) (fun w hS => ?_) ?_
      rotate_left
      · go_simp <;> with_reducible rfl
      dsimp only [List.set_cons_zero, List.set_cons_succ]
      refine wpSeq_take (d := 149) (v := ?_) rfl rfl (by kernel_rfl) (fun w hS => ?_) ?_
      rotate_left
      · go_simp <;> with_reducible rfl
      dsimp only [List.set_cons_zero, List.set_cons_succ]
      refine wpSeq_take (d := 151) (v := ?_) rfl rfl (by kernel_rfl) (fun w hS => ?_) ?_
      rotate_left
      · go_simp <;> with_reducible rfl
      dsimp only [List.set_cons_zero, List.set_cons_succ]
      refine wpSeq_take (d := 152) (v := ?_) rfl rfl (by kernel_rfl) (fun w hS => ?_) ?_
      rotate_left
      · go_simp <;> with_reducible rfl
      dsimp only [List.set_cons_zero, List.set_cons_succ]
      refine wpSeq_call rfl (by kernel_rfl) (fun K hK => ?_)
      go_simp
      (with_reducible refine (d1 _).mono ?_)
      rintro e w' ⟨rfl, hq⟩
      refine hK.out _ _ ?_ (fun hH => ?_)
      · exact ⟨hq.keep hH.1, hq.keep hH.2.1, hq.keep hH.2.2.1, hq.keep hH.2.2.2.1, hH.2.2.2.2.trans hq⟩
      clear hK
      refine wpSeq_call rfl (by kernel_rfl) (fun K hK => ?_)
      go_simp
      (with_reducible refine (d2 _).mono ?_)
      rintro e w' ⟨rfl, hq⟩
      refine hK.out _ _ ?_ (fun hH => ?_)
      · exact ⟨hq.keep hH.1, hq.keep hH.2.1, hq.keep hH.2.2.1, hq.keep hH.2.2.2.1, hH.2.2.2.2.trans hq⟩
      clear hK
      refine wpSeq_take (d := 154) (v := ?_) rfl rfl (by kernel_rfl) (fun w hS => ?_) ?_
      rotate_left
      · go_simp <;> with_reducible rfl
      dsimp only [List.set_cons_zero, List.set_cons_succ]
      refine wpSeq_take (d := 155) (v := ?_) rfl rfl (by kernel_rfl) (fun w hS => ?_) ?_
      rotate_left
      · go_simp <;> with_reducible rfl
      dsimp only [List.set_cons_zero, List.set_cons_succ]
      refine wpSeq_take (d := 156) (v := ?_) rfl rfl (by kernel_rfl) (fun w hS => ?_) ?_
      rotate_left
      · go_simp <;> with_reducible rfl
      dsimp only [List.set_cons_zero, List.set_cons_succ]
      refine wpSeq_take (d := 157) (v := ?_) rfl rfl (by kernel_rfl) (fun w hS => ?_) ?_
      rotate_left
      · go_simp <;> with_reducible rfl
      dsimp only [List.set_cons_zero, List.set_cons_succ]
      refine wpSeq_take (d := 158) (v := ?_) rfl rfl (by kernel_rfl) (fun w hS => ?_) ?_
      rotate_left
      · go_simp <;> with_reducible rfl
      dsimp only [List.set_cons_zero, List.set_cons_succ]
      refine wpSeq_take (d := 160) (v := ?_) rfl rfl (by kernel_rfl) (fun w hS => ?_) ?_
      rotate_left
      · go_simp <;> with_reducible rfl
      dsimp only [List.set_cons_zero, List.set_cons_succ]
      refine wpSeq_take (d := 161) (v := ?_) rfl rfl (by kernel_rfl) (fun w hS => ?_) ?_
      rotate_left
      · go_simp <;> with_reducible rfl
      dsimp only [List.set_cons_zero, List.set_cons_succ]
      refine wpSeq_take (d := 162) (v := ?_) rfl rfl (by kernel_rfl) (fun w hS => ?_) ?_
      rotate_left
      · go_simp <;> with_reducible rfl
      dsimp only [List.set_cons_zero, List.set_cons_succ]
      refine wpSeq_call rfl (by kernel_rfl) (fun K hK => ?_)
      go_simp
      (with_reducible refine (d3 _).mono ?_)
      rintro e w' ⟨rfl, hq⟩
      refine hK.out _ _ ?_ (fun hH => ?_)
      · exact ⟨hq.keep hH.1, hq.keep hH.2.1, hq.keep hH.2.2.1, hq.keep hH.2.2.2.1, hH.2.2.2.2.trans hq⟩
      clear hK
      refine wpSeq_call rfl (by kernel_rfl) (fun K hK => ?_)
      go_simp
      (with_reducible refine (d4 _).mono ?_)
      rintro e w' ⟨rfl, hq⟩
      refine hK.out _ _ ?_ (fun hH => ?_)
      · exact ⟨hq.keep hH.1, hq.keep hH.2.1, hq.keep hH.2.2.1, hq.keep hH.2.2.2.1, hH.2.2.2.2.trans hq⟩
      clear hK
      refine wpSeq_take (d := 164) (v := ?_) rfl rfl (by kernel_rfl) (fun w hS => ?_) ?_
      rotate_left
      · go_simp <;> with_reducible rfl
      dsimp only [List.set_cons_zero, List.set_cons_succ]
      refine wpSeq_take (d := 165) (v := ?_) rfl rfl (by kernel_rfl) (fun w hS => ?_) ?_
      rotate_left
      · go_simp <;> with_reducible rfl
      dsimp only [List.set_cons_zero, List.set_cons_succ]
      refine wpSeq_take (d := 166) (v := ?_) rfl rfl (by kernel_rfl) (fun w hS => ?_) ?_
      rotate_left
      · go_simp <;> with_reducible rfl
      dsimp only [List.set_cons_zero, List.set_cons_succ]
      refine wpSeq_take (d := 167) (v := ?_) rfl rfl (by kernel_rfl) (fun w hS => ?_) ?_
      rotate_left
      · go_simp <;> with_reducible rfl
      dsimp only [List.set_cons_zero, List.set_cons_succ]
      refine wpSeq_take (d := 168) (v := ?_) rfl rfl (by kernel_rfl) (fun w hS => ?_) ?_
      rotate_left
      · go_simp <;> with_reducible rfl
      dsimp only [List.set_cons_zero, List.set_cons_succ]
      refine wpSeq_take (d := 169) (v := ?_) rfl rfl (by kernel_rfl) (fun w hS => ?_) ?_
      rotate_left
      · go_simp <;> with_reducible rfl
      dsimp only [List.set_cons_zero, List.set_cons_succ]
      refine wpSeq_take (d := 170) (v := ?_) rfl rfl (by kernel_rfl) (fun w hS => ?_) ?_
      rotate_left
      · go_simp <;> with_reducible rfl
      dsimp only [List.set_cons_zero, List.set_cons_succ]
      refine wpSeq_take (d := 172) (v := ?_) rfl rfl (by kernel_rfl) (fun w hS => ?_) ?_
      rotate_left
      · go_simp <;> with_reducible rfl
      dsimp only [List.set_cons_zero, List.set_cons_succ]
      refine wpSeq_take (d := 173) (v := ?_) rfl rfl (by kernel_rfl) (fun w hS => ?_) ?_
      rotate_left
      · go_simp <;> with_reducible rfl
      dsimp only [List.set_cons_zero, List.set_cons_succ]
      refine wpSeq_take (d := 174) (v := ?_) rfl rfl (by kernel_rfl) (fun w hS => ?_) ?_
      rotate_left
      · go_simp <;> with_reducible rfl
      dsimp only [List.set_cons_zero, List.set_cons_succ]
      refine wpSeq_take (d := 175) (v := ?_) rfl rfl (by kernel_rfl) (fun w hS => ?_) ?_
      rotate_left
      · go_simp <;> with_reducible rfl
      dsimp only [List.set_cons_zero, List.set_cons_succ]
      refine wpSeq_call rfl (by kernel_rfl) (fun K hK => ?_)
      go_simp
      (with_reducible refine (d5 _).mono ?_)
      rintro e w' ⟨rfl, hq⟩
      refine hK.out _ _ ?_ (fun hH => ?_)
      · exact ⟨hq.keep hH.1, hq.keep hH.2.1, hq.keep hH.2.2.1, hq.keep hH.2.2.2.1, hH.2.2.2.2.trans hq⟩
      clear hK
      refine wpSeq_call rfl (by kernel_rfl) (fun K hK => ?_)
      go_simp
      (with_reducible refine (d6 _).mono ?_)
      rintro e w' ⟨rfl, hq⟩
      refine hK.out _ _ ?_ (fun hH => ?_)
      · exact ⟨hq.keep hH.1, hq.keep hH.2.1, hq.keep hH.2.2.1, hq.keep hH.2.2.2.1, hH.2.2.2.2.trans hq⟩
      clear hK
      refine wpSeq_take (d := 177) (v := ?_) rfl rfl (by kernel_rfl) (fun w hS => ?_) ?_
      rotate_left
      · go_simp <;> with_reducible rfl
      dsimp only [List.set_cons_zero, List.set_cons_succ]
      refine wpSeq_take (d := 178) (v := ?_) rfl rfl (by kernel_rfl) (fun w hS => ?_) ?_
      rotate_left
      · go_simp <;> with_reducible rfl
      dsimp only [List.set_cons_zero, List.set_cons_succ]
      refine wpSeq_take (d := 179) (v := ?_) rfl rfl (by kernel_rfl) (fun w hS => ?_) ?_
      rotate_left
      · go_simp <;> with_reducible rfl
      dsimp only [List.set_cons_zero, List.set_cons_succ]
      refine wpSeq_take (d := 180) (v := ?_) rfl rfl (by kernel_rfl) (fun w hS => ?_) ?_
      rotate_left
      · go_simp <;> with_reducible rfl
      dsimp only [List.set_cons_zero, List.set_cons_succ]
      refine wpSeq_take (d := 181) (v := ?_) rfl rfl (by kernel_rfl) (fun w hS => ?_) ?_
      rotate_left
      · go_simp <;> with_reducible rfl
      dsimp only [List.set_cons_zero, List.set_cons_succ]
      refine wpSeq_take (d := 182) (v := ?_) rfl rfl (by kernel_rfl) (fun w hS => ?_) ?_
      rotate_left
      · go_simp <;> with_reducible rfl
      dsimp only [List.set_cons_zero, List.set_cons_succ]
      refine wpSeq_take (d := 184) (v := ?_) rfl rfl (by kernel_rfl) (fun w hS => ?_) ?_
      rotate_left
      · go_simp <;> with_reducible rfl
      dsimp only [List.set_cons_zero, List.set_cons_succ]
      refine wpSeq_take (d := 185) (v := ?_) rfl rfl (by kernel_rfl) (fun w hS => ?_) ?_
      rotate_left
      · go_simp <;> with_reducible rfl
      dsimp only [List.set_cons_zero, List.set_cons_succ]
      refine wpSeq_take (d := 186) (v := ?_) rfl rfl (by kernel_rfl) (fun w hS => ?_) ?_
      rotate_left
      · go_simp <;> with_reducible rfl
      dsimp only [List.set_cons_zero, List.set_cons_succ]
      refine wpSeq_call rfl (by kernel_rfl) (fun K hK => ?_)
      go_simp
      (with_reducible refine (d7 _).mono ?_)
      rintro e w' ⟨rfl, hq⟩
      refine hK.out _ _ ?_ (fun hH => ?_)
      · exact ⟨hq.keep hH.1, hq.keep hH.2.1, hq.keep hH.2.2.1, hq.keep hH.2.2.2.1, hH.2.2.2.2.trans hq⟩
      clear hK
      refine wpSeq_call rfl (by kernel_rfl) (fun K hK => ?_)
      go_simp
      (with_reducible refine (d8 _).mono ?_)
      rintro e w' ⟨rfl, hq⟩
      refine hK.out _ _ ?_ (fun hH => ?_)
      · exact ⟨hq.keep hH.1, hq.keep hH.2.1, hq.keep hH.2.2.1, hq.keep hH.2.2.2.1, hH.2.2.2.2.trans hq⟩
      clear hK
      refine wpSeq_take (d := 188) (v := ?_) rfl rfl (by kernel_rfl) (fun w hS => ?_) ?_
      rotate_left
      · go_simp <;> with_reducible rfl
      dsimp only [List.set_cons_zero, List.set_cons_succ]
      refine wpSeq_take (d := 189) (v := ?_) rfl rfl (by kernel_rfl) (fun w hS => ?_) ?_
      rotate_left
      · go_simp <;> with_reducible rfl
      dsimp only [List.set_cons_zero, List.set_cons_succ]
      refine wpSeq_done ?_
      refine NoPanic.normal ?_

      go_wp2
      go_roundw
      case rel => exact ⟨n + 1, by omega, by go_num, hH.2.2.2.2⟩
      case measure => simp [intOf]; omega
    · go_wp2
      go_ret
      exact ⟨rfl, g.trans hq⟩
end Go.Proofs.Ytehohogpnmokjaa
