/-
  Layer 4: the walk of TableTells.
-/
import Derived.Test.YtikdfoeinlnfgaaL4rises
import Derived.Test.YtikdfoeinlnfgaaLight
import Derived.Test.YtikdfoeinlnfgaaOpen
namespace Go.Proofs.Ytikdfoeinlnfgaa
open Go.RowKit

/-- Three shapes of few pieces stand in a block. -/
def TreS (w : World) (b : Nat) : Prop := ∀ m : Nat, m < 3 → ∃ v l, w.cell? ⟨b, m, none⟩ = some v ∧ IsSecs w v l ∧ l.length ≤ 6
theorem treS_new (w : World) (t : TypeId) (x y z : Value) (lx ly lz : List Sec) (hx : IsSecs w x lx) (hy : IsSecs w y ly) (hz : IsSecs w z lz) (kx : lx.length ≤ 6) (ky : ly.length ≤ 6) (kz : lz.length ≤ 6) :
    TreS (w.alloc (.cells #[x, y, z] t)) w.heap.size := by
  intro m hm
  rw [World.cell?_alloc_new]
  match m, hm with
  | 0, _ => exact ⟨_, lx, rfl, hx.keepB ((B.refl w).alloc _ _), kx⟩
  | 1, _ => exact ⟨_, ly, rfl, hy.keepB ((B.refl w).alloc _ _), ky⟩
  | 2, _ => exact ⟨_, lz, rfl, hz.keepB ((B.refl w).alloc _ _), kz⟩
theorem TreS.keep {w w' : World} {b : Nat} (h : TreS w b) (q : B w w') : TreS w' b := fun m hm => by
  obtain ⟨v, l, h1, h2, h3⟩ := h m hm
  exact ⟨v, l, q.keep h1, h2.keepB q, h3⟩
theorem IsSecs.at {w : World} {a : Addr} {n cap : Nat} {l : List Sec} (h : IsSecs w (.slice (some a) n cap) l) : ∀ i s, l[i]? = some s → s.I ∧ SecAt w (a.add (i * 6)) s := by
  rcases h with ⟨e, _⟩ | ⟨a', cap', e, _, _, h4⟩
  · injection e with e1; cases e1
  · injection e with e1; injection e1 with e2; subst e2; exact h4
/-- Two numbers stand in a block. -/
def TwoI (w : World) (b : Nat) : Prop := ∀ m : Nat, m < 2 → ∃ x, w.cell? ⟨b, m, none⟩ = some (.int .i64 x) ∧ I64 x
theorem twoI_new (w : World) (t : TypeId) (x y : Int) (hx : I64 x) (hy : I64 y) : TwoI (w.alloc (.cells #[.int .i64 x, .int .i64 y] t)) w.heap.size := by
  intro m hm
  rw [World.cell?_alloc_new]
  match m, hm with
  | 0, _ => exact ⟨x, rfl, hx⟩
  | 1, _ => exact ⟨y, rfl, hy⟩
theorem TwoI.keep {w w' : World} {b : Nat} (h : TwoI w b) (q : B w w') : TwoI w' b := fun m hm => by
  obtain ⟨v, h1, h2⟩ := h m hm
  exact ⟨v, q.keep h1, h2⟩
theorem RTab.ptr {w : World} {p : Value} {L : List (Int × Int)} (h : RTab w p L) : ∃ a, p = .pointer (some a) := by
  obtain ⟨b, _, _, _, _, rfl, _⟩ := h
  exact ⟨_, rfl⟩
theorem r3of_yes (v : Value) (l : List Sec) (w : World) (hv : IsSecs w v l) (hr : rightS l = true) :
    Calls Try.prog 14 #[v] w fun e w' => ∃ a, e = .returned (.tuple #[.pointer (some a), .bool true]) ∧ RTab w' (.pointer (some a)) (slAll l) ∧ B w w' :=
  (r3of_any v l w hv).mono fun e w' h => by
    rcases h with ⟨_, p, rfl, h2, h3⟩ | ⟨h0, _⟩
    · obtain ⟨a, rfl⟩ := h2.ptr
      exact ⟨a, rfl, h2, h3⟩
    · rw [hr] at h0; cases h0
theorem r3of_no (v : Value) (l : List Sec) (w : World) (hv : IsSecs w v l) (hr : rightS l = false) :
    Calls Try.prog 14 #[v] w fun e w' => e = .returned (.tuple #[.pointer none, .bool false]) ∧ B w w' :=
  (r3of_any v l w hv).mono fun e w' h => by
    rcases h with ⟨h0, _⟩ | ⟨_, h1, h2⟩
    · rw [hr] at h0; cases h0
    · exact ⟨h1, h2⟩

set_option maxRecDepth 100000 in
set_option maxHeartbeats 16000000 in
theorem tells_law {T : World → Value → List (Int × Int) → Prop} (c : TabC T) (cA : AreaC) (v0 : Value) (l0 : List Sec) (k : Int) (v : Value) (n : Nat) (rd : Bool) (at_ part : Int)
    (hk : (Lit.int .u8 k).wf = true) (hat : (Lit.int .i64 at_).wf = true) (hpt : (Lit.int .i64 part).wf = true) (w : World) (h0 : IsSecs w v0 l0) (hv : IsU16 w v n) :
    Calls Try.prog 3 #[v0, .int .u8 k, v, .bool rd, .int .i64 at_, .int .i64 part] w fun e w' => e = .returned (.bool true) ∧ B w w' := by
  obtain ⟨k1, k2⟩ := u8_wf hk
  have iat := i64_wf hat
  have ipt := i64_wf hpt
  clear hk hat hpt
  have c0 := fun w => known4_any c w
  have cW := fun w h => wild_any v n rd w h
  have cK := fun w => shape_any k k1 k2 w
  have rK := shape_right (k % 6).toNat
  generalize shapeOf (k % 6).toNat = lk at *
  obtain ⟨_, lk4, _⟩ := right_all rK
  have cLi := fun w hv => light_any v0 l0 w hv
  obtain ⟨ao, cap0, rfl, hn⟩ := hv.form
  obtain ⟨oo, nn, pp, rfl⟩ := h0.form
  have HV := Lib.hid hv
  have H0 := Lib.hid h0
  clear hv h0 rK
  by_cases ga : ¬ ((l0.length : Int) ≤ 6)
  · replace cLi := fun w hv => cLi w hv false (decide_eq_false ga)
    go_enter Try.func3, Try.ntmps3
    go_wp2_with fail
    refine (c0 _).mono ?_
    rintro e W1 ⟨rfl, g⟩
    go_wp2_with fail
    refine (cLi _ (H0.out.keepB g)).mono ?_
    rintro e W2 ⟨rfl, rfl⟩
    go_wp2
    go_ret
    exact ⟨rfl, g⟩
  replace ga := Decidable.of_not_not ga
  replace cLi := fun w hv => cLi w hv true (decide_eq_true ga)
  by_cases hn40 : 40 < n
  · have n40 : decide ((40 : Int) < (n : Int)) = true := decide_eq_true (by omega)
    go_enter Try.func3, Try.ntmps3
    go_wp2_with fail
    refine (c0 _).mono ?_
    rintro e W1 ⟨rfl, g⟩
    go_wp2_with fail
    refine (cLi _ (H0.out.keepB g)).mono ?_
    rintro e W2 ⟨rfl, rfl⟩
    go_wp2
    go_ret
    exact ⟨rfl, g⟩
  have n40 : decide ((40 : Int) < (n : Int)) = false := decide_eq_false (by omega)
  go_enter Try.func3, Try.ntmps3
  go_wp2_with fail
  refine (c0 _).mono ?_
  rintro e W1 ⟨rfl, g⟩
  go_wp2_with fail
  refine (cLi _ (H0.out.keepB g)).mono ?_
  rintro e W1' ⟨rfl, rfl⟩
  go_wp2_with fail
  refine (cK _).mono ?_
  rintro e w2 ⟨v1, rfl, hv1, q2⟩
  obtain ⟨oo1, nn1, pp1, rfl⟩ := hv1.form
  replace g := g.trans q2.b
  go_wp2_with fail
  refine (cW _ (HV.out.keepB g)).mono ?_
  rintro e w3 ⟨v2, l, rfl, hl, hr, g2⟩
  obtain ⟨oo2, nn2, pp2, rfl⟩ := hl.form
  obtain ⟨_, hl4, _⟩ := right_all hr
  replace g := g.trans g2
  have T0 := fun t => treS_new w3 t (.slice oo nn pp) (.slice oo1 nn1 pp1) (.slice oo2 nn2 pp2) l0 lk l (H0.out.keepB g) (hv1.keepB g2) hl (by omega) (by omega) (by omega)
  clear g2 cW c0 HV cK q2 hv1 hl hr cLi H0 ga
  go_wp2
  have T3 := T0 22
  clear T0
  replace g := g.alloc #[.slice oo nn pp, .slice oo1 nn1 pp1, .slice oo2 nn2 pp2] 22
  generalize w3.alloc (.cells #[.slice oo nn pp, .slice oo1 nn1 pp1, .slice oo2 nn2 pp2] 22) = W1 at *
  generalize w3.heap.size = bb at *
  go_loopw [41] (fun i wr => ∃ m : Nat, m ≤ 3 ∧ i = .int .i64 m ∧ B W1 wr) (fun i _ => 3 - (intOf i).toNat)
  case atStart => exact ⟨0, Nat.zero_le _, rfl, B.refl _⟩
  case round =>
    obtain ⟨m, hm, rfl, gW⟩ := hrel
    by_cases hm2 : m < 3
    · have hmB : decide ((m : Int) < 3) = true := decide_eq_true (by omega)
      obtain ⟨vs, ls, hc, hsecs, hs6⟩ := (T3.keep gW) m hm2
      obtain ⟨os, ps, rfl⟩ := hsecs.formL
      have hways : rightS ls = false ∨ rightS ls = true := by cases rightS ls <;> simp
      rcases hways with hrs | hrs
      · have cN := fun w h => c.no (.slice os ls.length ps) ls w h hrs
        have rN := fun w h => r3of_no (.slice os ls.length ps) ls w h hrs
        have HS := Lib.hid hsecs
        clear hsecs
        go_wp2_with fail
        refine (cN _ HS.out).mono ?_
        rintro e w4 ⟨rfl, h⟩
        have h1 := HS.out.keepB h
        replace gW := gW.trans h
        clear h HS
        go_wp2_with fail
        refine (rN _ h1).mono ?_
        rintro e w5 ⟨rfl, h⟩
        replace gW := gW.trans h
        clear h h1
        go_wp2
        go_roundw
        case rel => exact ⟨m + 1, by omega, by go_num, gW⟩
        case measure => simp [intOf]; omega
      obtain ⟨a, rfl⟩ : ∃ a, os = some a := by
        rcases hsecs with ⟨e, e2⟩ | ⟨a, _, e, _⟩
        · subst e2; exact absurd hrs (by decide)
        · exact ⟨a, by injection e⟩
      have cY := fun w h => c.yes (.slice (some a) ls.length ps) ls w h hrs
      have rY := fun w h => r3of_yes (.slice (some a) ls.length ps) ls w h hrs
      have hb := tbnd_of hrs
      generalize slAll ls = L at *
      have HS := Lib.hid hsecs
      clear hsecs
      go_wp2_with fail
      refine (cY _ HS.out).mono ?_
      rintro e w4 ⟨pt, rfl, ht, h⟩
      have h1 := HS.out.keepB h
      have g := gW.trans h
      clear h HS gW hc
      go_wp2_with fail
      refine (rY _ h1).mono ?_
      rintro e w5 ⟨pr, rfl, hu, h⟩
      replace g := g.trans h
      replace ht := c.keep ht h
      have hv := h1.keepB h
      clear h h1 cY rY hrs
      have c3 := fun v w h => c.slices v L w hb h
      have r3 := fun v w h => r3slices_any v L hb.n w h
      have c6 := fun v w h => c.tall v L w hb h
      have r6 := fun v w h => r3tall_any v L hb.n w h
      go_wp2_with fail
      refine (c3 _ _ ht).mono ?_
      rintro e wS ⟨rfl, h⟩
      replace g := g.trans h
      replace ht := c.keep ht h
      replace hu := hu.keepB h
      replace hv := hv.keepB h
      clear h
      go_wp2_with fail
      refine (r3 _ _ hu).mono ?_
      rintro e wS ⟨rfl, rfl⟩
      go_wp2_with fail
      refine (c6 _ _ ht).mono ?_
      rintro e wS ⟨rfl, h⟩
      replace g := g.trans h
      replace ht := c.keep ht h
      replace hu := hu.keepB h
      replace hv := hv.keepB h
      clear h
      go_wp2_with fail
      refine (r6 _ _ hu).mono ?_
      rintro e wS ⟨rfl, rfl⟩
      go_wp2
      obtain ⟨wo, rfl⟩ : ∃ wo : World, wo = wr := ⟨_, rfl⟩
      have hn6 := hb.n
      go_loopw [19] (fun i wr => ∃ j : Nat, j ≤ L.length + 3 ∧ i = .int .i64 ((j : Int) - 1) ∧ T wr (.pointer (some pt)) L ∧ RTab wr (.pointer (some pr)) L ∧ IsSecs wr (.slice (some a) ls.length ps) ls ∧ B W1 wr) (fun i _ => L.length + 3 - (intOf i + 1).toNat)
      case atStart => exact ⟨0, Nat.zero_le _, rfl, ht, hu, hv, g⟩
      case round =>
        clear ht hu hv g
        obtain ⟨j, hj, rfl, ht, hu, hv, g⟩ := hrel
        by_cases hjl : j < L.length + 3
        · have hjB : decide ((j : Int) - 1 ≤ (L.length : Int) + 1) = true := decide_eq_true (by omega)
          have k1' := fun v w h => c.low v L ((j : Int) - 1) w hb (by unfold I64; omega) h
          have q1 := fun v w h => r3low_any v L hb.n ((j : Int) - 1) w h
          have k2' := fun v w h => c.high v L ((j : Int) - 1) w hb (by unfold I64; omega) h
          have q2 := fun v w h => r3high_any v L hb.n ((j : Int) - 1) w h
          have k3' := fun v w h => c.tru v L ((j : Int) - 1) part w hb (by unfold I64; omega) ipt h
          have q3 := fun v w h => r3true_any v L hb ((j : Int) - 1) part w h
          have k4' := fun v w h => c.tru v L ((j : Int) - 1) 500 w hb (by unfold I64; omega) (by decide) h
          have q4 := fun v w h => r3true_any v L hb ((j : Int) - 1) 500 w h
          generalize trueM (lowT L (nearI L.length ((j : Int) - 1))) (highT L (nearI L.length ((j : Int) - 1))) (min (max part 0) 1000) = Z3 at *
          generalize trueM (lowT L (nearI L.length ((j : Int) - 1))) (highT L (nearI L.length ((j : Int) - 1))) (min (max 500 0) 1000) = Z4 at *
          generalize lowT L (nearI L.length ((j : Int) - 1)) = Z1 at *
          generalize highT L (nearI L.length ((j : Int) - 1)) = Z2 at *
          have wn : IntKind.i64.wrap ((L.length : Int) + 1) = (L.length : Int) + 1 := wrapI (by omega) (by omega)
          have wj : IntKind.i64.wrap (j : Int) = (j : Int) := wrapI (by omega) (by omega)
          go_wp2_with fail
          refine (r3 _ _ hu).mono ?_
          rintro e wS ⟨rfl, rfl⟩
          go_wp2_with fail
          refine (k1' _ _ ht).mono ?_
          rintro e wS ⟨rfl, h⟩
          replace g := g.trans h
          replace ht := c.keep ht h
          replace hu := hu.keepB h
          replace hv := hv.keepB h
          clear h
          go_wp2_with fail
          refine (q1 _ _ hu).mono ?_
          rintro e wS ⟨rfl, h⟩
          replace h := h.q.b
          replace g := g.trans h
          replace ht := c.keep ht h
          replace hu := hu.keepB h
          replace hv := hv.keepB h
          clear h
          go_wp2_with fail
          refine (k2' _ _ ht).mono ?_
          rintro e wS ⟨rfl, h⟩
          replace g := g.trans h
          replace ht := c.keep ht h
          replace hu := hu.keepB h
          replace hv := hv.keepB h
          clear h
          go_wp2_with fail
          refine (q2 _ _ hu).mono ?_
          rintro e wS ⟨rfl, h⟩
          replace h := h.q.b
          replace g := g.trans h
          replace ht := c.keep ht h
          replace hu := hu.keepB h
          replace hv := hv.keepB h
          clear h
          go_wp2_with fail
          refine (k3' _ _ ht).mono ?_
          rintro e wS ⟨rfl, h⟩
          replace g := g.trans h
          replace ht := c.keep ht h
          replace hu := hu.keepB h
          replace hv := hv.keepB h
          clear h
          go_wp2_with fail
          refine (q3 _ _ hu).mono ?_
          rintro e wS ⟨rfl, h⟩
          replace h := h.q.b
          replace g := g.trans h
          replace ht := c.keep ht h
          replace hu := hu.keepB h
          replace hv := hv.keepB h
          clear h
          go_wp2_with fail
          refine (k4' _ _ ht).mono ?_
          rintro e wS ⟨rfl, h⟩
          replace g := g.trans h
          replace ht := c.keep ht h
          replace hu := hu.keepB h
          replace hv := hv.keepB h
          clear h
          go_wp2_with fail
          refine (q4 _ _ hu).mono ?_
          rintro e wS ⟨rfl, h⟩
          replace h := h.q.b
          replace g := g.trans h
          replace ht := c.keep ht h
          replace hu := hu.keepB h
          replace hv := hv.keepB h
          clear h
          go_wp2
          go_roundw
          case rel => exact ⟨j + 1, by omega, by go_num, ht, hu, hv, g⟩
          case measure => simp [intOf]; omega
        · have hjB : decide ((j : Int) - 1 ≤ (L.length : Int) + 1) = false := decide_eq_false (by omega)
          have wn : IntKind.i64.wrap ((L.length : Int) + 1) = (L.length : Int) + 1 := wrapI (by omega) (by omega)
          go_wp2_with fail
          refine (r3 _ _ hu).mono ?_
          rintro e wS ⟨rfl, rfl⟩
          clear c3 r3 c6 r6
          go_wp2
          have HH := Lib.hid (And.intro hv g)
          clear ht hu hv g
          obtain ⟨wo2, rfl⟩ : ∃ wo : World, wo = wr := ⟨_, rfl⟩
          go_loopw [20] (fun i wr => ∃ q : Nat, q ≤ ls.length ∧ i = .int .i64 q ∧ IsSecs wr (.slice (some a) ls.length ps) ls ∧ B W1 wr) (fun i _ => ls.length - (intOf i).toNat)
          case atStart => exact ⟨0, Nat.zero_le _, rfl, HH.out.1, HH.out.2⟩
          case round =>
            clear HH
            obtain ⟨q, hq, rfl, hv, g⟩ := hrel
            by_cases hql : q < ls.length
            · have hqB : decide (q < ls.length) = true := decide_eq_true hql
              have hqI : (q : Int) < (ls.length : Int) := by omega
              obtain ⟨hI, hs⟩ := hv.at q _ (List.getElem?_eq_getElem hql)
              generalize ls[q] = s at *
              obtain ⟨r, h, a0, b0, a1, b1⟩ := s
              obtain ⟨am, eam⟩ : ∃ x, bits .and .i64 at_ 4095 = x := ⟨_, rfl⟩
              have iam : I64 am := by rw [← eam]; exact and_I64 _ _
              go_wp2
              have T2 := twoI_new wr 2 at_ am iat iam
              have gI0 := (B.refl wr).alloc #[.int .i64 at_, .int .i64 am] 2
              generalize wr.alloc (.cells #[.int .i64 at_, .int .i64 am] 2) = WI at *
              generalize wr.heap.size = ib at *
              have HH := Lib.hid (And.intro hv g)
              clear hv g
              obtain ⟨wo3, rfl⟩ : ∃ wo : World, wo = wr := ⟨_, rfl⟩
              go_loopw [141] (fun i wr => ∃ u : Nat, u ≤ 2 ∧ i = .int .i64 u ∧ B WI wr) (fun i _ => 2 - (intOf i).toNat)
              case atStart => exact ⟨0, Nat.zero_le _, rfl, B.refl _⟩
              case round =>
                obtain ⟨u, hu, rfl, gI⟩ := hrel
                by_cases hu2 : u < 2
                · have huB : decide ((u : Int) < 2) = true := decide_eq_true (by omega)
                  obtain ⟨x, hx, ix⟩ := (T2.keep gI) u hu2
                  obtain ⟨f0, f1, f2, f3, f4, f5⟩ := (hs.keepB gI0).keepB gI
                  simp only at f0 f1 f2 f3 f4 f5
                  have aF := fun w => cA r h a0 b0 a1 b1 x false w hI ix
                  have aT := fun w => cA r h a0 b0 a1 b1 x true w hI ix
                  have eF := fun w => (r3Area_any r h a0 b0 a1 b1 x false w hI ix).mono fun _ _ y => And.intro y.1 y.2.b
                  have eT := fun w => (r3Area_any r h a0 b0 a1 b1 x true w hI ix).mono fun _ _ y => And.intro y.1 y.2.b
                  generalize areaOf ⟨r, h, a0, b0, a1, b1⟩ x false = ZF at *
                  generalize areaOf ⟨r, h, a0, b0, a1, b1⟩ x true = ZT at *
                  go_wp2_with fail
                  refine wp_region_noPanic ?_
                  refine wp_region_seq (S := fun w' => w'.cell? (a.add (q * 6)) = some (.bool r) ∧ w'.cell? ⟨(a.add (q * 6)).block, (a.add (q * 6)).off + 1, none⟩ = some (.int .i64 h) ∧ w'.cell? ⟨(a.add (q * 6)).block, (a.add (q * 6)).off + 2, none⟩ = some (.int .i64 a0) ∧ w'.cell? ⟨(a.add (q * 6)).block, (a.add (q * 6)).off + 3, none⟩ = some (.int .i64 b0) ∧ w'.cell? ⟨(a.add (q * 6)).block, (a.add (q * 6)).off + 4, none⟩ = some (.int .i64 a1) ∧ w'.cell? ⟨(a.add (q * 6)).block, (a.add (q * 6)).off + 5, none⟩ = some (.int .i64 b1) ∧ B wr w') [(0, 0), (1, 0), (2, 0), (3, 0), (4, 0), (6, 0), (7, 0), (8, 0), (9, 0), (10, 0), (5, 2), (11, 2), (12, 0), (13, 0), (14, 0), (15, 0), (16, 0), (17, 0), (18, 0), (20, 0), (21, 0), (22, 0), (23, 0), (24, 0), (19, 2), (25, 2), (26, 0), (27, 0)] [0, 0, 3, 4, 0, 24, 0, 0, 192, 256, 0, 1568, 2080, 6144, 8192, 8192, 57344, 73728, 8192, 401408, 8192, 8192, 3153920, 4202496, 8192, 25698304, 34086912, 67117056] [0, 0, 3, 4, 0, 24, 0, 0, 192, 256, 0, 1536, 2080, 4096, 8192, 8192, 57344, 73728, 8192, 401408, 8192, 8192, 3153920, 4202496, 8192, 25174016, 34086912, 67117056] (by kernel_rfl) (by kernel_rfl) (fun _ _ _ _ _ h => h) ?_ (fun hH => ?_)
                  · exact ⟨by simp [go_sem, f0], by simp [go_sem, f1], by simp [go_sem, f2], by simp [go_sem, f3], by simp [go_sem, f4], by simp [go_sem, f5], (B.refl wr).drew⟩
                  refine wpSeq_take (d := 145) (v := ?_) rfl rfl (by kernel_rfl) (fun w hS => ?_) ?_
                  rotate_left
                  · go_simp <;> with_reducible rfl
                  dsimp only [List.set_cons_zero, List.set_cons_succ]
                  refine wpSeq_take (d := 146) (v := ?_) rfl rfl (by kernel_rfl) (fun w hS => ?_) ?_
                  rotate_left
                  · go_simp <;> with_reducible rfl
                  dsimp only [List.set_cons_zero, List.set_cons_succ]
                  refine wpSeq_take (d := 147) (v := ?_) rfl rfl (by kernel_rfl) (fun w hS => ?_) ?_
                  rotate_left
                  · go_simp <;> with_reducible rfl
                  dsimp only [List.set_cons_zero, List.set_cons_succ]
                  refine wpSeq_take (d := 148) (v := ?_) rfl rfl (by kernel_rfl) (fun w hS => ?_) ?_
                  rotate_left
                  · go_simp <;> with_reducible rfl
                  dsimp only [List.set_cons_zero, List.set_cons_succ]
                  refine wpSeq_take (d := 149) (v := ?_) rfl rfl (by kernel_rfl) (fun w hS => ?_) ?_
                  rotate_left
                  · go_simp <;> with_reducible rfl
                  dsimp only [List.set_cons_zero, List.set_cons_succ]
                  refine wpSeq_take (d := 151) (v := ?_) rfl rfl (by kernel_rfl) (fun w hS => ?_) ?_
                  rotate_left
                  · go_simp <;> with_reducible rfl
                  dsimp only [List.set_cons_zero, List.set_cons_succ]
                  refine wpSeq_take (d := 152) (v := ?_) rfl rfl (by kernel_rfl) (fun w hS => ?_) ?_
                  rotate_left
                  · go_simp <;> with_reducible rfl
                  dsimp only [List.set_cons_zero, List.set_cons_succ]
                  refine wpSeq_take (d := 153) (v := ?_) rfl rfl (by kernel_rfl) (fun w hS => ?_) ?_
                  rotate_left
                  · go_simp <;> with_reducible rfl
                  dsimp only [List.set_cons_zero, List.set_cons_succ]
                  refine wpSeq_take (d := 154) (v := ?_) rfl rfl (by kernel_rfl) (fun w hS => ?_) ?_
                  rotate_left
                  · go_simp <;> with_reducible rfl
                  dsimp only [List.set_cons_zero, List.set_cons_succ]
                  refine wpSeq_take (d := 155) (v := ?_) rfl rfl (by kernel_rfl) (fun w hS => ?_) ?_
                  rotate_left
                  · go_simp <;> with_reducible rfl
                  dsimp only [List.set_cons_zero, List.set_cons_succ]
                  refine wpSeq_call rfl (by kernel_rfl) (fun K hK => ?_)
                  go_simp
                  (with_reducible refine (aF _).mono ?_)
                  rintro e w' ⟨rfl, hq⟩
                  refine hK.out _ _ ?_ (fun hH => ?_)
                  · exact ⟨hq.keep hH.1, hq.keep hH.2.1, hq.keep hH.2.2.1, hq.keep hH.2.2.2.1, hq.keep hH.2.2.2.2.1, hq.keep hH.2.2.2.2.2.1, hH.2.2.2.2.2.2.trans hq⟩
                  clear hK
                  refine wpSeq_call rfl (by kernel_rfl) (fun K hK => ?_)
                  go_simp
                  (with_reducible refine (eF _).mono ?_)
                  rintro e w' ⟨rfl, hq⟩
                  refine hK.out _ _ ?_ (fun hH => ?_)
                  · exact ⟨hq.keep hH.1, hq.keep hH.2.1, hq.keep hH.2.2.1, hq.keep hH.2.2.2.1, hq.keep hH.2.2.2.2.1, hq.keep hH.2.2.2.2.2.1, hH.2.2.2.2.2.2.trans hq⟩
                  clear hK
                  refine wpSeq_take (d := 157) (v := ?_) rfl rfl (by kernel_rfl) (fun w hS => ?_) ?_
                  rotate_left
                  · go_simp <;> with_reducible rfl
                  dsimp only [List.set_cons_zero, List.set_cons_succ]
                  refine wpSeq_take (d := 158) (v := ?_) rfl rfl (by kernel_rfl) (fun w hS => ?_) ?_
                  rotate_left
                  · go_simp <;> with_reducible rfl
                  dsimp only [List.set_cons_zero, List.set_cons_succ]
                  refine wpSeq_take (d := 159) (v := ?_) rfl rfl (by kernel_rfl) (fun w hS => ?_) ?_
                  rotate_left
                  · go_simp <;> with_reducible rfl
                  dsimp only [List.set_cons_zero, List.set_cons_succ]
                  refine wpSeq_take (d := 160) (v := ?_) rfl rfl (by kernel_rfl) (fun w hS => ?_) ?_
                  rotate_left
                  · go_simp <;> with_reducible rfl
                  dsimp only [List.set_cons_zero, List.set_cons_succ]
                  refine wpSeq_take (d := 161) (v := ?_) rfl rfl (by kernel_rfl) (fun w hS => ?_) ?_
                  rotate_left
                  · go_simp <;> with_reducible rfl
                  dsimp only [List.set_cons_zero, List.set_cons_succ]
                  refine wpSeq_take (d := 162) (v := ?_) rfl rfl (by kernel_rfl) (fun w hS => ?_) ?_
                  rotate_left
                  · go_simp <;> with_reducible rfl
                  dsimp only [List.set_cons_zero, List.set_cons_succ]
                  refine wpSeq_take (d := 163) (v := ?_) rfl rfl (by kernel_rfl) (fun w hS => ?_) ?_
                  rotate_left
                  · go_simp <;> with_reducible rfl
                  dsimp only [List.set_cons_zero, List.set_cons_succ]
                  refine wpSeq_take (d := 165) (v := ?_) rfl rfl (by kernel_rfl) (fun w hS => ?_) ?_
                  rotate_left
                  · go_simp <;> with_reducible rfl
                  dsimp only [List.set_cons_zero, List.set_cons_succ]
                  refine wpSeq_take (d := 166) (v := ?_) rfl rfl (by kernel_rfl) (fun w hS => ?_) ?_
                  rotate_left
                  · go_simp <;> with_reducible rfl
                  dsimp only [List.set_cons_zero, List.set_cons_succ]
                  refine wpSeq_take (d := 167) (v := ?_) rfl rfl (by kernel_rfl) (fun w hS => ?_) ?_
                  rotate_left
                  · go_simp <;> with_reducible rfl
                  dsimp only [List.set_cons_zero, List.set_cons_succ]
                  refine wpSeq_take (d := 168) (v := ?_) rfl rfl (by kernel_rfl) (fun w hS => ?_) ?_
                  rotate_left
                  · go_simp <;> with_reducible rfl
                  dsimp only [List.set_cons_zero, List.set_cons_succ]
                  refine wpSeq_take (d := 169) (v := ?_) rfl rfl (by kernel_rfl) (fun w hS => ?_) ?_
                  rotate_left
                  · go_simp <;> with_reducible rfl
                  dsimp only [List.set_cons_zero, List.set_cons_succ]
                  refine wpSeq_call rfl (by kernel_rfl) (fun K hK => ?_)
                  go_simp
                  (with_reducible refine (aT _).mono ?_)
                  rintro e w' ⟨rfl, hq⟩
                  refine hK.out _ _ ?_ (fun hH => ?_)
                  · exact ⟨hq.keep hH.1, hq.keep hH.2.1, hq.keep hH.2.2.1, hq.keep hH.2.2.2.1, hq.keep hH.2.2.2.2.1, hq.keep hH.2.2.2.2.2.1, hH.2.2.2.2.2.2.trans hq⟩
                  clear hK
                  refine wpSeq_call rfl (by kernel_rfl) (fun K hK => ?_)
                  go_simp
                  (with_reducible refine (eT _).mono ?_)
                  rintro e w' ⟨rfl, hq⟩
                  refine hK.out _ _ ?_ (fun hH => ?_)
                  · exact ⟨hq.keep hH.1, hq.keep hH.2.1, hq.keep hH.2.2.1, hq.keep hH.2.2.2.1, hq.keep hH.2.2.2.2.1, hq.keep hH.2.2.2.2.2.1, hH.2.2.2.2.2.2.trans hq⟩
                  clear hK
                  refine wpSeq_take (d := 171) (v := ?_) rfl rfl (by kernel_rfl) (fun w hS => ?_) ?_
                  rotate_left
                  · go_simp <;> with_reducible rfl
                  dsimp only [List.set_cons_zero, List.set_cons_succ]
                  refine wpSeq_take (d := 172) (v := ?_) rfl rfl (by kernel_rfl) (fun w hS => ?_) ?_
                  rotate_left
                  · go_simp <;> with_reducible rfl
                  dsimp only [List.set_cons_zero, List.set_cons_succ]
                  refine wpSeq_done ?_
                  refine NoPanic.normal ?_
                  obtain ⟨_, _, _, _, _, _, hD⟩ := hH
                  go_wp2
                  go_roundw
                  case rel => exact ⟨u + 1, by omega, by go_num, gI.trans hD⟩
                  case measure => simp [intOf]; omega
                · have huB : decide ((u : Int) < 2) = false := decide_eq_false (by omega)
                  go_wp2
                  go_roundw
                  case rel => exact ⟨q + 1, by omega, by go_num, HH.out.1.keepB (gI0.trans gI), HH.out.2.trans (gI0.trans gI)⟩
                  case measure => simp [intOf]; omega
            · have hqB : decide (q < ls.length) = false := decide_eq_false hql
              go_wp2
              go_roundw
              case rel => exact ⟨m + 1, by omega, by go_num, g⟩
              case measure => simp [intOf]; omega
    · have hmB : decide ((m : Int) < 3) = false := decide_eq_false (by omega)
      go_wp2
      go_ret
      exact ⟨rfl, g.trans gW⟩
end Go.Proofs.Ytikdfoeinlnfgaa
