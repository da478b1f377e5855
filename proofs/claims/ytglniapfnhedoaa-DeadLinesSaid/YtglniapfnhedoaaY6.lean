/-
  Layer 15: the walk of DeadLines; Layer 15: the walk of DeadEdges; The document's own tables: how many slices; The document's own tables: how many slices; upper sums; The document's own levels: whole cubic micrometres; Contract of the document's own Low; Contract of the document's own High; The document's own tables: lower sums, how high; The document's own dead volumes; Layer 15: the walk of DeadTells; Layer 15: the laws over the code's own tables.
-/
import Derived.Lib.MinMax
import Derived.Test.YtglniapfnhedoaaY1
import Derived.Test.YtglniapfnhedoaaY2
import Derived.Test.YtglniapfnhedoaaY3
import Derived.Test.YtglniapfnhedoaaY4
import Derived.Test.YtglniapfnhedoaaY5
namespace Go.Proofs.Ytglniapfnhedoaa
open Go.RowKit
set_option maxRecDepth 100000 in
set_option maxHeartbeats 8000000 in
theorem dlines_law {T : World → Value → List (Int × Int) → Prop} (c : TabL T) (k : Int) (v : Value) (n : Nat) (rd : Bool) (nn more : Int) (hk : (Lit.int .u8 k).wf = true) (hnn : (Lit.int .u32 nn).wf = true) (hmore : (Lit.int .u16 more).wf = true) (w : World) (hv : IsU16 w v n) :
    Calls Try.prog 5 #[.int .u8 k, v, .bool rd, .int .u32 nn, .int .u16 more] w fun e w' => e = .returned (.bool true) ∧ B w w' := by
  obtain ⟨k1, k2⟩ := u8_wf hk
  obtain ⟨nn1, nn2⟩ := u32_wf hnn
  obtain ⟨more1, more2⟩ := u16_wf hmore
  clear hk hnn hmore
  have c0 := fun w => known15_any c w
  have cW := fun w h => wild_any v n rd w h
  have cK := fun w => shape_any k k1 k2 w
  have rK := shape_right (k % 6).toNat
  generalize shapeOf (k % 6).toNat = lk at *
  obtain ⟨ao, cap0, rfl, hn⟩ := hv.form
  by_cases hn40 : 40 < n
  · have n40 : decide ((40 : Int) < (n : Int)) = true := decide_eq_true (by omega)
    clear hv
    go_enter Try.func5, Try.ntmps5
    go_wp2_with fail
    refine (c0 _).mono ?_
    rintro e w1 ⟨rfl, g⟩
    go_wp2
    go_ret
    exact ⟨rfl, g⟩
  have n40 : decide ((40 : Int) < (n : Int)) = false := decide_eq_false (by omega)
  have HV := Lib.hid hv
  clear hv
  obtain ⟨x, ex⟩ : ∃ z, nn % 500000 = z := ⟨_, rfl⟩
  have tx : nn.tmod 500000 = x := by rw [Int.tmod_eq_emod_of_nonneg (by omega)]; exact ex
  have bx : 0 ≤ x ∧ x < 500000 := by omega
  have xx : IntKind.i64.wrap x = x := wrapI (by omega) (by omega)
  have yx : IntKind.u32.wrap x = x := wrapU32 (by omega) (by omega)
  have wm : IntKind.i64.wrap more = more := wrapI (by omega) (by omega)
  obtain ⟨y, ey⟩ : ∃ y, x + more = y := ⟨_, rfl⟩
  have wy : IntKind.i64.wrap (x + more) = y := by rw [ey]; exact wrapI (by omega) (by omega)
  have hxy : x ≤ y := by omega
  go_enter Try.func5, Try.ntmps5
  go_wp2_with fail
  refine (c0 _).mono ?_
  rintro e w1 ⟨rfl, g⟩
  go_wp2_with fail
  refine (cK _).mono ?_
  rintro e w2 ⟨v1, rfl, hv1, q2⟩
  obtain ⟨oo1, nn1, pp1, rfl⟩ := hv1.form
  replace g := g.trans q2.b
  go_wp2_with fail
  refine (cW _ (HV.out.keepB g)).mono ?_
  rintro e w3 ⟨v2, l, rfl, hl, hr, g2⟩
  obtain ⟨oo2, nn2, pp2, rfl⟩ := hl.form
  replace g := g.trans g2
  have T0 := fun t => twoS_new w3 t (.slice oo1 nn1 pp1) (.slice oo2 nn2 pp2) lk l (hv1.keepB g2) hl rK hr
  clear g2 cW c0 HV cK q2 hv1 hl hr rK
  go_wp2
  have T2 := T0 25
  clear T0
  replace g := g.alloc #[.slice oo1 nn1 pp1, .slice oo2 nn2 pp2] 25
  generalize w3.alloc (.cells #[.slice oo1 nn1 pp1, .slice oo2 nn2 pp2] 25) = W1 at *
  generalize w3.heap.size = bb at *
  have G0 := Lib.hid g
  clear g
  go_loopw [29] (fun i wr => ∃ m : Nat, m ≤ 2 ∧ i = .int .i64 m ∧ B W1 wr) (fun i _ => 2 - (intOf i).toNat)
  case atStart => exact ⟨0, Nat.zero_le _, rfl, B.refl _⟩
  case round =>
    obtain ⟨m, hm, rfl, g⟩ := hrel
    by_cases hm2 : m < 2
    · have hmB : decide ((m : Int) < 2) = true := decide_eq_true (by omega)
      obtain ⟨vs, ls, hc, hsecs, hrs⟩ := (T2.keep g) m hm2
      obtain ⟨os, ns, ps, rfl⟩ := hsecs.form
      have cO := fun w h => c.yes (.slice os ns ps) ls w h hrs
      have hb := tbnd_of hrs
      have hL := slAll_pos hrs
      generalize slAll ls = L at *
      go_wp2_with fail
      refine (cO _ hsecs).mono ?_
      rintro e w4 ⟨pt, rfl, ht, h⟩
      replace g := g.trans h
      clear h cO hsecs hc hrs
      have c1 := fun w h => enough_any c (.pointer (some pt)) L x w hb h
      have c2 := fun w h => enough_any c (.pointer (some pt)) L y w hb h
      have c3 := fun w h => room_any c (.pointer (some pt)) L x w hb h
      have c4 := fun w h => room_any c (.pointer (some pt)) L y w hb h
      have r1 := en_mono (L := L) hxy
      have r2 := ro_mono (L := L) hxy
      generalize enM L x = A at *
      generalize enM L y = D at *
      generalize roM L x = E at *
      generalize roM L y = F at *
      have hA : A = false ∨ D = true := by cases A <;> cases D <;> simp at r1 ⊢
      have hF : F = false ∨ E = true := by cases F <;> cases E <;> simp at r2 ⊢
      clear r1 r2
      cases A with
      | true =>
        obtain rfl : D = true := by simpa using hA
        cases F with
        | true =>
          obtain rfl : E = true := by simpa using hF
          clear hA hF
          go_wp2_with fail
          refine (c1 _ ht).mono ?_
          rintro e wS ⟨rfl, q⟩
          replace g := g.trans q
          replace ht := c.keep ht q
          clear q
          go_wp2_with fail
          refine (c2 _ ht).mono ?_
          rintro e wS ⟨rfl, q⟩
          replace g := g.trans q
          replace ht := c.keep ht q
          clear q
          go_wp2_with fail
          refine (c4 _ ht).mono ?_
          rintro e wS ⟨rfl, q⟩
          replace g := g.trans q
          replace ht := c.keep ht q
          clear q
          go_wp2_with fail
          refine (c3 _ ht).mono ?_
          rintro e wS ⟨rfl, q⟩
          replace g := g.trans q
          replace ht := c.keep ht q
          clear q
          go_wp2
          go_roundw
          case rel => exact ⟨m + 1, by omega, by go_num, g⟩
          case measure => simp [intOf]; omega
        | false =>
          clear hA hF
          go_wp2_with fail
          refine (c1 _ ht).mono ?_
          rintro e wS ⟨rfl, q⟩
          replace g := g.trans q
          replace ht := c.keep ht q
          clear q
          go_wp2_with fail
          refine (c2 _ ht).mono ?_
          rintro e wS ⟨rfl, q⟩
          replace g := g.trans q
          replace ht := c.keep ht q
          clear q
          go_wp2_with fail
          refine (c4 _ ht).mono ?_
          rintro e wS ⟨rfl, q⟩
          replace g := g.trans q
          replace ht := c.keep ht q
          clear q
          go_wp2
          go_roundw
          case rel => exact ⟨m + 1, by omega, by go_num, g⟩
          case measure => simp [intOf]; omega
      | false =>
        cases F with
        | true =>
          obtain rfl : E = true := by simpa using hF
          clear hA hF
          go_wp2_with fail
          refine (c1 _ ht).mono ?_
          rintro e wS ⟨rfl, q⟩
          replace g := g.trans q
          replace ht := c.keep ht q
          clear q
          go_wp2_with fail
          refine (c4 _ ht).mono ?_
          rintro e wS ⟨rfl, q⟩
          replace g := g.trans q
          replace ht := c.keep ht q
          clear q
          go_wp2_with fail
          refine (c3 _ ht).mono ?_
          rintro e wS ⟨rfl, q⟩
          replace g := g.trans q
          replace ht := c.keep ht q
          clear q
          go_wp2
          go_roundw
          case rel => exact ⟨m + 1, by omega, by go_num, g⟩
          case measure => simp [intOf]; omega
        | false =>
          clear hA hF
          go_wp2_with fail
          refine (c1 _ ht).mono ?_
          rintro e wS ⟨rfl, q⟩
          replace g := g.trans q
          replace ht := c.keep ht q
          clear q
          go_wp2_with fail
          refine (c4 _ ht).mono ?_
          rintro e wS ⟨rfl, q⟩
          replace g := g.trans q
          replace ht := c.keep ht q
          clear q
          go_wp2
          go_roundw
          case rel => exact ⟨m + 1, by omega, by go_num, g⟩
          case measure => simp [intOf]; omega
    · have hmB : decide ((m : Int) < 2) = false := decide_eq_false (by omega)
      replace g := G0.out.trans g
      go_wp2
      go_ret
      exact ⟨rfl, g⟩
end Go.Proofs.Ytglniapfnhedoaa

namespace Go.Proofs.Ytglniapfnhedoaa
open Go.RowKit
set_option maxRecDepth 100000 in
set_option maxHeartbeats 8000000 in
theorem dedges_law {T : World → Value → List (Int × Int) → Prop} (c : TabL T) (k : Int) (v : Value) (n : Nat) (rd : Bool) (hk : (Lit.int .u8 k).wf = true)  (w : World) (hv : IsU16 w v n) :
    Calls Try.prog 4 #[.int .u8 k, v, .bool rd] w fun e w' => e = .returned (.bool true) ∧ B w w' := by
  obtain ⟨k1, k2⟩ := u8_wf hk
  clear hk 
  have c0 := fun w => known15_any c w
  have cW := fun w h => wild_any v n rd w h
  have cK := fun w => shape_any k k1 k2 w
  have rK := shape_right (k % 6).toNat
  generalize shapeOf (k % 6).toNat = lk at *
  obtain ⟨ao, cap0, rfl, hn⟩ := hv.form
  by_cases hn40 : 40 < n
  · have n40 : decide ((40 : Int) < (n : Int)) = true := decide_eq_true (by omega)
    clear hv
    go_enter Try.func4, Try.ntmps4
    go_wp2_with fail
    refine (c0 _).mono ?_
    rintro e w1 ⟨rfl, g⟩
    go_wp2
    go_ret
    exact ⟨rfl, g⟩
  have n40 : decide ((40 : Int) < (n : Int)) = false := decide_eq_false (by omega)
  have HV := Lib.hid hv
  clear hv
  go_enter Try.func4, Try.ntmps4
  go_wp2_with fail
  refine (c0 _).mono ?_
  rintro e w1 ⟨rfl, g⟩
  go_wp2_with fail
  refine (cK _).mono ?_
  rintro e w2 ⟨v1, rfl, hv1, q2⟩
  obtain ⟨oo1, nn1, pp1, rfl⟩ := hv1.form
  replace g := g.trans q2.b
  go_wp2_with fail
  refine (cW _ (HV.out.keepB g)).mono ?_
  rintro e w3 ⟨v2, l, rfl, hl, hr, g2⟩
  obtain ⟨oo2, nn2, pp2, rfl⟩ := hl.form
  replace g := g.trans g2
  have T0 := fun t => twoS_new w3 t (.slice oo1 nn1 pp1) (.slice oo2 nn2 pp2) lk l (hv1.keepB g2) hl rK hr
  clear g2 cW c0 HV cK q2 hv1 hl hr rK
  go_wp2
  have T2 := T0 25
  clear T0
  replace g := g.alloc #[.slice oo1 nn1 pp1, .slice oo2 nn2 pp2] 25
  generalize w3.alloc (.cells #[.slice oo1 nn1 pp1, .slice oo2 nn2 pp2] 25) = W1 at *
  generalize w3.heap.size = bb at *
  have G0 := Lib.hid g
  clear g
  go_loopw [27] (fun i wr => ∃ m : Nat, m ≤ 2 ∧ i = .int .i64 m ∧ B W1 wr) (fun i _ => 2 - (intOf i).toNat)
  case atStart => exact ⟨0, Nat.zero_le _, rfl, B.refl _⟩
  case round =>
    obtain ⟨m, hm, rfl, g⟩ := hrel
    by_cases hm2 : m < 2
    · have hmB : decide ((m : Int) < 2) = true := decide_eq_true (by omega)
      obtain ⟨vs, ls, hc, hsecs, hrs⟩ := (T2.keep g) m hm2
      obtain ⟨os, ns, ps, rfl⟩ := hsecs.form
      have cO := fun w h => c.yes (.slice os ns ps) ls w h hrs
      have hb := tbnd_of hrs
      have hL := slAll_pos hrs
      generalize slAll ls = L at *
      go_wp2_with fail
      refine (cO _ hsecs).mono ?_
      rintro e w4 ⟨pt, rfl, ht, h⟩
      replace g := g.trans h
      clear h cO hsecs hc hrs
      have hn6 := hb.n
      have cV := fun w h => dvol_any c (.pointer (some pt)) L w hb h
      have cM := fun w h => dlim_any c (.pointer (some pt)) L w hb h
      have cT := fun w h => c.tall (.pointer (some pt)) L w hb h
      obtain ⟨N, eN⟩ : ∃ N, (L.length : Int) * 100 = N := ⟨_, rfl⟩
      rw [eN] at cT
      have bv := deadV_bnd hb
      have bl := limV_bnd hb
      have e1 := fun w h => enough_any c (.pointer (some pt)) L (deadV L) w hb h
      have e2 := fun w h => enough_any c (.pointer (some pt)) L (deadV L - 1) w hb h
      have e3 := fun w h => room_any c (.pointer (some pt)) L (limV L) w hb h
      have e4 := fun w h => room_any c (.pointer (some pt)) L (limV L + 1) w hb h
      by_cases h5 : 5 ≤ L.length
      · by_cases h13 : 13 ≤ L.length
        · obtain ⟨j1, j2, j3⟩ := dead_just hb h13
          rw [j2] at e1
          rw [j3 _ (by omega)] at e2
          rw [decide_eq_true h13] at cV
          have t13 : decide ((1300 : Int) ≤ N) = true := decide_eq_true (by omega)
          obtain ⟨j4, j5⟩ := lim_just hb h5
          rw [j4] at e3
          rw [j5 _ (by omega)] at e4
          rw [decide_eq_true h5] at cM
          have t5 : decide ((500 : Int) ≤ N) = true := decide_eq_true (by omega)
          generalize deadV L = V at *
          generalize limV L = M at *
          obtain ⟨Vm, eV⟩ : ∃ z, V - 1 = z := ⟨_, rfl⟩
          obtain ⟨Mp, eM⟩ : ∃ z, M + 1 = z := ⟨_, rfl⟩
          have wV : IntKind.i64.wrap (V - 1) = Vm := by rw [eV]; exact wrapI (by omega) (by omega)
          have wM : IntKind.i64.wrap (M + 1) = Mp := by rw [eM]; exact wrapI (by omega) (by omega)
          rw [eV] at e2
          rw [eM] at e4
          clear eV eM
          have d1 : decide (0 < V) = true := decide_eq_true j1
          clear bv bl eN hL hn6 h13 h5 j1 j2 j3 j4 j5
          go_wp2_with fail
          refine (cV _ ht).mono ?_
          rintro e wS ⟨rfl, q⟩
          replace g := g.trans q
          replace ht := c.keep ht q
          clear q
          go_wp2_with fail
          refine (cM _ ht).mono ?_
          rintro e wS ⟨rfl, q⟩
          replace g := g.trans q
          replace ht := c.keep ht q
          clear q
          go_wp2_with fail
          refine (cT _ ht).mono ?_
          rintro e wS ⟨rfl, q⟩
          replace g := g.trans q
          replace ht := c.keep ht q
          clear q
          go_wp2_with fail
          refine (cT _ ht).mono ?_
          rintro e wS ⟨rfl, q⟩
          replace g := g.trans q
          replace ht := c.keep ht q
          clear q
          go_wp2_with fail
          refine (e1 _ ht).mono ?_
          rintro e wS ⟨rfl, q⟩
          replace g := g.trans q
          replace ht := c.keep ht q
          clear q
          go_wp2_with fail
          refine (e2 _ ht).mono ?_
          rintro e wS ⟨rfl, q⟩
          replace g := g.trans q
          replace ht := c.keep ht q
          clear q
          go_wp2_with fail
          refine (e3 _ ht).mono ?_
          rintro e wS ⟨rfl, q⟩
          replace g := g.trans q
          replace ht := c.keep ht q
          clear q
          go_wp2_with fail
          refine (e4 _ ht).mono ?_
          rintro e wS ⟨rfl, q⟩
          replace g := g.trans q
          replace ht := c.keep ht q
          clear q
          go_wp2
          go_roundw
          case rel => exact ⟨m + 1, by omega, by go_num, g⟩
          case measure => simp [intOf]; omega
        · rw [decide_eq_false h13] at cV
          have t13 : decide ((1300 : Int) ≤ N) = false := decide_eq_false (by omega)
          obtain ⟨j4, j5⟩ := lim_just hb h5
          rw [j4] at e3
          rw [j5 _ (by omega)] at e4
          rw [decide_eq_true h5] at cM
          have t5 : decide ((500 : Int) ≤ N) = true := decide_eq_true (by omega)
          generalize deadV L = V at *
          generalize limV L = M at *
          obtain ⟨Vm, eV⟩ : ∃ z, V - 1 = z := ⟨_, rfl⟩
          obtain ⟨Mp, eM⟩ : ∃ z, M + 1 = z := ⟨_, rfl⟩
          have wV : IntKind.i64.wrap (V - 1) = Vm := by rw [eV]; exact wrapI (by omega) (by omega)
          have wM : IntKind.i64.wrap (M + 1) = Mp := by rw [eM]; exact wrapI (by omega) (by omega)
          rw [eV] at e2
          rw [eM] at e4
          clear eV eM
          clear bv bl eN hL hn6 h13 h5 e1 e2 j4 j5
          go_wp2_with fail
          refine (cV _ ht).mono ?_
          rintro e wS ⟨rfl, q⟩
          replace g := g.trans q
          replace ht := c.keep ht q
          clear q
          go_wp2_with fail
          refine (cM _ ht).mono ?_
          rintro e wS ⟨rfl, q⟩
          replace g := g.trans q
          replace ht := c.keep ht q
          clear q
          go_wp2_with fail
          refine (cT _ ht).mono ?_
          rintro e wS ⟨rfl, q⟩
          replace g := g.trans q
          replace ht := c.keep ht q
          clear q
          go_wp2_with fail
          refine (cT _ ht).mono ?_
          rintro e wS ⟨rfl, q⟩
          replace g := g.trans q
          replace ht := c.keep ht q
          clear q
          go_wp2_with fail
          refine (e3 _ ht).mono ?_
          rintro e wS ⟨rfl, q⟩
          replace g := g.trans q
          replace ht := c.keep ht q
          clear q
          go_wp2_with fail
          refine (e4 _ ht).mono ?_
          rintro e wS ⟨rfl, q⟩
          replace g := g.trans q
          replace ht := c.keep ht q
          clear q
          go_wp2
          go_roundw
          case rel => exact ⟨m + 1, by omega, by go_num, g⟩
          case measure => simp [intOf]; omega
      · have h13 : ¬ 13 ≤ L.length := by omega
        rw [decide_eq_false h13] at cV
        have t13 : decide ((1300 : Int) ≤ N) = false := decide_eq_false (by omega)
        rw [decide_eq_false h5] at cM
        have t5 : decide ((500 : Int) ≤ N) = false := decide_eq_false (by omega)
        generalize deadV L = V at *
        generalize limV L = M at *
        obtain ⟨Vm, eV⟩ : ∃ z, V - 1 = z := ⟨_, rfl⟩
        obtain ⟨Mp, eM⟩ : ∃ z, M + 1 = z := ⟨_, rfl⟩
        have wV : IntKind.i64.wrap (V - 1) = Vm := by rw [eV]; exact wrapI (by omega) (by omega)
        have wM : IntKind.i64.wrap (M + 1) = Mp := by rw [eM]; exact wrapI (by omega) (by omega)
        rw [eV] at e2
        rw [eM] at e4
        clear eV eM
        clear bv bl eN hL hn6 h13 h5 e1 e2 e3 e4
        go_wp2_with fail
        refine (cV _ ht).mono ?_
        rintro e wS ⟨rfl, q⟩
        replace g := g.trans q
        replace ht := c.keep ht q
        clear q
        go_wp2_with fail
        refine (cM _ ht).mono ?_
        rintro e wS ⟨rfl, q⟩
        replace g := g.trans q
        replace ht := c.keep ht q
        clear q
        go_wp2_with fail
        refine (cT _ ht).mono ?_
        rintro e wS ⟨rfl, q⟩
        replace g := g.trans q
        replace ht := c.keep ht q
        clear q
        go_wp2_with fail
        refine (cT _ ht).mono ?_
        rintro e wS ⟨rfl, q⟩
        replace g := g.trans q
        replace ht := c.keep ht q
        clear q
        go_wp2
        go_roundw
        case rel => exact ⟨m + 1, by omega, by go_num, g⟩
        case measure => simp [intOf]; omega
    · have hmB : decide ((m : Int) < 2) = false := decide_eq_false (by omega)
      replace g := G0.out.trans g
      go_wp2
      go_ret
      exact ⟨rfl, g⟩
end Go.Proofs.Ytglniapfnhedoaa

namespace Go.Proofs.Ytglniapfnhedoaa
open Go.RowKit
theorem r3slices_any (p : Value) (L : List (Int × Int)) (hb : L.length ≤ 600) (w : World) (ht : RTab w p L) :
    Calls Try.prog 28 #[p] w fun e w' => e = .returned (.int .i64 L.length) ∧ w = w' := by
  obtain ⟨b, aL, cL, aH, cH, rfl, h1, h2, h3, h4⟩ := ht
  clear h2 h3 h4
  obtain ⟨N, hN⟩ : ∃ N, L.length = N := ⟨_, rfl⟩
  rw [hN] at h1 hb ⊢
  have w2 : IntKind.i64.wrap (N : Int) = (N : Int) := wrapI (by omega) (by omega)
  go_enter Try.func28, Try.ntmps28
  go_wp2
  go_ret
  exact ⟨rfl, rfl⟩
theorem r3near_any (p : Value) (L : List (Int × Int)) (hb : L.length ≤ 600) (i : Int) (w : World) (ht : RTab w p L) :
    Calls Try.prog 43 #[p, .int .i64 i] w fun e w' => e = .returned (.int .i64 (nearI L.length i : Int)) ∧ w = w' := by
  have c := r3slices_any p L hb w ht
  have e1 := nearI_eq L.length i
  obtain ⟨b, aL, cL, aH, cH, rfl, _⟩ := ht
  obtain ⟨m, e2⟩ : ∃ m, max i 0 = m := ⟨_, rfl⟩
  rw [e2] at e1
  generalize nearI L.length i = n at *
  go_enter Try.func43, Try.ntmps43
  go_wp2_with fail
  refine c.mono ?_
  rintro e w1 ⟨rfl, rfl⟩
  go_wp2
  go_ret
  exact ⟨rfl, rfl⟩
end Go.Proofs.Ytglniapfnhedoaa

namespace Go.Proofs.Ytglniapfnhedoaa
open Go.RowKit
theorem r3high_any (p : Value) (L : List (Int × Int)) (hb : L.length ≤ 600) (i : Int) (w : World) (ht : RTab w p L) :
    Calls Try.prog 29 #[p, .int .i64 i] w fun e w' => e = .returned (.int .i64 (highT L (nearI L.length i))) ∧ Dr w w' := by
  have htt := ht
  obtain ⟨b, aL, cL, aH, cH, rfl, h1, h2, h3, h4⟩ := ht
  have c := fun w ht => r3near_any (.pointer (some ⟨b, 0, none⟩)) L hb i w ht
  have hn := nearI_le L.length i
  have hc := h2
  have hx := h4 _ hn
  have hnI : (nearI L.length i : Int) < (L.length : Int) + 1 := by omega
  clear h1 h2 h3 h4
  generalize highT L (nearI L.length i) = X at *
  generalize nearI L.length i = n at *
  obtain ⟨N, hN⟩ : ∃ N, L.length = N := ⟨_, rfl⟩
  rw [hN] at hc hn hnI
  go_enter Try.func29, Try.ntmps29
  go_wp2_with fail
  refine wp_region_noPanic ?_
  refine wp_region_seq (S := fun w' => w'.cell? ⟨b, 1, none⟩ = some (.slice (some aH) (N + 1) cH) ∧ w'.cell? (aH.add n) = some (.int .i64 X) ∧ RTab w' (.pointer (some ⟨b, 0, none⟩)) L ∧ Dr w w') [(0, 0), (1, 0), (2, 0), (3, 0), (4, 0), (5, 0), (6, 2), (7, 0), (8, 0), (9, 0)] [0, 1, 2, 4, 0, 0, 48, 72, 128, 511] [0, 1, 2, 4, 0, 0, 48, 72, 128, 256] (by kernel_rfl) (by kernel_rfl) (fun _ _ _ _ _ h => h) ?_ (fun hH => ?_)
  · exact ⟨by simp [go_sem, hc], by simp [go_sem, hx], htt.keepB (B.refl w).drew, ⟨1, rfl⟩⟩
  refine wpSeq_take (d := 5) (v := ?_) rfl rfl (by kernel_rfl) (fun w hS => ?_) ?_
  rotate_left
  · go_simp <;> with_reducible rfl
  dsimp only [List.set_cons_zero, List.set_cons_succ]
  refine wpSeq_take (d := 6) (v := ?_) rfl rfl (by kernel_rfl) (fun w hS => ?_) ?_
  rotate_left
  · go_simp <;> with_reducible rfl
  dsimp only [List.set_cons_zero, List.set_cons_succ]
  refine wpSeq_take (d := 7) (v := ?_) rfl rfl (by kernel_rfl) (fun w hS => ?_) ?_
  rotate_left
  · go_simp <;> with_reducible rfl
  dsimp only [List.set_cons_zero, List.set_cons_succ]
  refine wpSeq_take (d := 8) (v := ?_) rfl rfl (by kernel_rfl) (fun w hS => ?_) ?_
  rotate_left
  · go_simp <;> with_reducible rfl
  dsimp only [List.set_cons_zero, List.set_cons_succ]
  refine wpSeq_take (d := 9) (v := ?_) rfl rfl (by kernel_rfl) (fun w hS => ?_) ?_
  rotate_left
  · go_simp <;> with_reducible rfl
  dsimp only [List.set_cons_zero, List.set_cons_succ]
  refine wpSeq_take (d := 10) (v := ?_) rfl rfl (by kernel_rfl) (fun w hS => ?_) ?_
  rotate_left
  · go_simp <;> with_reducible rfl
  dsimp only [List.set_cons_zero, List.set_cons_succ]
  refine wpSeq_call rfl (by kernel_rfl) (fun K hK => ?_)
  go_simp
  (with_reducible refine (c _ hH.2.2.1).mono ?_)
  rintro e w' ⟨rfl, rfl⟩
  refine hK.out _ _ hH (fun hH => ?_)
  clear hK
  refine wpSeq_take (d := 12) (v := ?_) rfl rfl (by kernel_rfl) (fun w hS => ?_) ?_
  rotate_left
  · go_simp <;> with_reducible rfl
  dsimp only [List.set_cons_zero, List.set_cons_succ]
  refine wpSeq_take (d := 13) (v := ?_) rfl rfl (by kernel_rfl) (fun w hS => ?_) ?_
  rotate_left
  · go_simp <;> with_reducible rfl
  dsimp only [List.set_cons_zero, List.set_cons_succ]
  refine wpSeq_take (d := 4) (v := ?_) rfl rfl (by kernel_rfl) (fun w hS => ?_) ?_
  rotate_left
  · go_simp <;> with_reducible rfl
  dsimp only [List.set_cons_zero, List.set_cons_succ]
  refine wpSeq_done ?_
  refine NoPanic.normal ?_
  obtain ⟨_, _, _, hd⟩ := hH
  go_wp2
  go_ret
  exact ⟨rfl, hd⟩
end Go.Proofs.Ytglniapfnhedoaa

namespace Go.Proofs.Ytglniapfnhedoaa
open Go.RowKit
theorem r3cubic_any (v : Int) (w : World) : Calls Try.prog 48 #[.int .i64 v] w fun e w' => e = .returned (.int .i64 (cubM v)) ∧ w = w' := by
  unfold cubM
  obtain ⟨m, e1⟩ : ∃ m, max v 0 = m := ⟨_, rfl⟩
  obtain ⟨q, e2⟩ : ∃ q, min m 1000000000 = q := ⟨_, rfl⟩
  rw [e1, e2]
  have w1 : IntKind.i64.wrap (q * 1000000) = q * 1000000 := wrapI (by omega) (by omega)
  go_enter Try.func48, Try.ntmps48
  go_wp2
  go_ret
  exact ⟨rfl, rfl⟩
end Go.Proofs.Ytglniapfnhedoaa

namespace Go.Proofs.Ytglniapfnhedoaa
open Go.RowKit
set_option maxHeartbeats 2000000 in
theorem r3lvLow_any (p : Value) (L : List (Int × Int)) (v : Int) (w : World) (hb : TBnd L) (ht : RTab w p L) :
    Calls Try.prog 34 #[p, .int .i64 v] w fun e w' => e = .returned (.int .i64 (lvLow L v)) ∧ B w w' := by
  have cC := fun w => r3cubic_any v w
  have cS := fun w ht => r3slices_any p L hb.n w ht
  have cH := fun i w ht => r3high_any p L hb.n i w ht
  obtain ⟨x0, x1⟩ := cub_bnd v
  have hn6 := hb.n
  unfold lvLow
  generalize cubM v = x at *
  have HF := @firstIx_is L.length (fun i => decide (x < highT L (i + 1)))
  generalize firstIx L.length (fun i => decide (x < highT L (i + 1))) = F at *
  have HT := Lib.hid ht
  clear ht
  go_enter Try.func34, Try.ntmps34
  go_wp2_with fail
  refine (cC _).mono ?_
  rintro e w1 ⟨rfl, rfl⟩
  clear cC
  go_wp2
  go_loopw [6] (fun i wr => ∃ k : Nat, k ≤ L.length ∧ i = .int .i64 k ∧ (∀ j, j < k → highT L (j + 1) ≤ x) ∧ RTab wr p L ∧ B w wr) (fun i _ => L.length + 1 - (intOf i).toNat)
  case atStart => exact ⟨0, Nat.zero_le _, rfl, fun j hj => by omega, HT.out, B.refl _⟩
  case round =>
    clear HT
    obtain ⟨k, hk, rfl, hall, ht, g⟩ := hrel
    have wk : IntKind.i64.wrap ((k : Int) * 100) = (k : Int) * 100 := wrapI (by omega) (by omega)
    have wk1 : IntKind.i64.wrap ((k : Int) + 1) = (k : Int) + 1 := wrapI (by omega) (by omega)
    by_cases hl : k < L.length
    · have hlB : decide ((k : Int) < (L.length : Int)) = true := decide_eq_true (by omega)
      have e1 : nearI L.length ((k : Int) + 1) = k + 1 := by unfold nearI; omega
      have cHk := cH ((k : Int) + 1)
      rw [e1] at cHk
      by_cases hx : highT L (k + 1) ≤ x
      · have hxB : decide (highT L (k + 1) ≤ x) = true := decide_eq_true hx
        have hall' : ∀ j, j < k + 1 → highT L (j + 1) ≤ x := fun j hj => by
          by_cases c : j = k
          · subst c; exact hx
          · exact hall j (by omega)
        have HA := Lib.hid hall'
        clear hall hall' hx HF cH
        generalize highT L (k + 1) = Y at *
        go_wp2_with fail
        refine (cS _ ht).mono ?_
        rintro e w1 ⟨rfl, rfl⟩
        go_wp2_with fail
        refine (cHk _ ht).mono ?_
        rintro e w2 ⟨rfl, q⟩
        replace ht := ht.keepB q.q.b
        replace g := g.trans q.q.b
        go_wp2
        go_roundw
        case rel => exact ⟨k + 1, by omega, by go_num, HA.out, ht, g⟩
        case measure => simp [intOf]; omega
      · have hxB : decide (highT L (k + 1) ≤ x) = false := decide_eq_false hx
        have HE := Lib.hid (HF (i := k) hk (fun j hj => by have := hall j hj; simp only [decide_eq_false_iff_not]; omega) (fun _ => by simp only [decide_eq_true_eq]; omega))
        clear hall hx HF cH
        generalize highT L (k + 1) = Y at *
        go_wp2_with fail
        refine (cS _ ht).mono ?_
        rintro e w1 ⟨rfl, rfl⟩
        go_wp2_with fail
        refine (cHk _ ht).mono ?_
        rintro e w2 ⟨rfl, q⟩
        replace g := g.trans q.q.b
        go_wp2
        go_ret
        exact ⟨by rw [HE.out, Int.mul_comm]; rfl, g⟩
    · have hlB : decide ((k : Int) < (L.length : Int)) = false := decide_eq_false (by omega)
      obtain rfl : k = L.length := by omega
      have HE := Lib.hid (HF (i := L.length) hk (fun j hj => by have := hall j hj; simp only [decide_eq_false_iff_not]; omega) (fun h => by omega))
      clear hall HF cH
      go_wp2_with fail
      refine (cS _ ht).mono ?_
      rintro e w1 ⟨rfl, rfl⟩
      go_wp2
      go_ret
      exact ⟨by rw [HE.out, Int.mul_comm]; rfl, g⟩
end Go.Proofs.Ytglniapfnhedoaa

namespace Go.Proofs.Ytglniapfnhedoaa
open Go.RowKit
set_option maxHeartbeats 2000000 in
theorem r3lvHigh_any (p : Value) (L : List (Int × Int)) (v : Int) (w : World) (hb : TBnd L) (ht : RTab w p L) :
    Calls Try.prog 36 #[p, .int .i64 v] w fun e w' => e = .returned (.int .i64 (lvHigh L v)) ∧ B w w' := by
  have cC := fun w => r3cubic_any v w
  have cS := fun w ht => r3slices_any p L hb.n w ht
  obtain ⟨x0, x1⟩ := cub_bnd v
  have hn6 := hb.n
  unfold lvHigh
  generalize cubM v = x at *
  have HF := @firstIx_is (L.length + 1) (fun i => decide (x ≤ lowT L i))
  generalize firstIx (L.length + 1) (fun i => decide (x ≤ lowT L i)) = F at *
  obtain ⟨b, aL, cL, aH, cHH, rfl, h1, h2, h3, h4⟩ := ht
  have ht : RTab w (.pointer (some ⟨b, 0, none⟩)) L := ⟨b, aL, cL, aH, cHH, rfl, h1, h2, h3, h4⟩
  have H3 := Lib.hid h3
  have HT := Lib.hid ht
  clear h2 h3 h4 ht
  obtain ⟨N, hN⟩ : ∃ N, L.length = N := ⟨_, rfl⟩
  rw [hN] at cS hn6 HF h1
  go_enter Try.func36, Try.ntmps36
  go_wp2_with fail
  refine (cC _).mono ?_
  rintro e w1 ⟨rfl, rfl⟩
  clear cC
  go_wp2
  go_loopw [6] (fun i wr => ∃ k : Nat, k ≤ N + 1 ∧ i = .int .i64 k ∧ (∀ j, j < k → lowT L j < x) ∧ w = wr) (fun i _ => N + 2 - (intOf i).toNat)
  case atStart => exact ⟨0, Nat.zero_le _, rfl, fun j hj => by omega, rfl⟩
  case round =>
    obtain ⟨k, hk, rfl, hall, rfl⟩ := hrel
    have wk : IntKind.i64.wrap ((k : Int) * 100) = (k : Int) * 100 := wrapI (by omega) (by omega)
    have wk1 : IntKind.i64.wrap ((k : Int) + 1) = (k : Int) + 1 := wrapI (by omega) (by omega)
    by_cases hl : k ≤ N
    · have hlB : decide ((k : Int) ≤ (N : Int)) = true := decide_eq_true (by omega)
      have hlI : (k : Int) < (N : Int) + 1 := by omega
      have hc := H3.out k (by omega)
      by_cases hx : lowT L k < x
      · have hxB : decide (lowT L k < x) = true := decide_eq_true hx
        have hall' : ∀ j, j < k + 1 → lowT L j < x := fun j hj => by
          by_cases c : j = k
          · subst c; exact hx
          · exact hall j (by omega)
        have HA := Lib.hid hall'
        clear hall hall' hx HF
        generalize lowT L k = Y at *
        go_wp2_with fail
        refine (cS _ HT.out).mono ?_
        rintro e w1 ⟨rfl, rfl⟩
        go_wp2
        go_roundw
        case rel => exact ⟨k + 1, by omega, by go_num, HA.out, trivial⟩
        case measure => simp [intOf]; omega
      · have hxB : decide (lowT L k < x) = false := decide_eq_false hx
        have HE := Lib.hid (HF (i := k) (by omega) (fun j hj => by have := hall j hj; simp only [decide_eq_false_iff_not]; omega) (fun _ => by simp only [decide_eq_true_eq]; omega))
        clear hall hx HF
        generalize lowT L k = Y at *
        go_wp2_with fail
        refine (cS _ HT.out).mono ?_
        rintro e w1 ⟨rfl, rfl⟩
        go_wp2
        go_ret
        exact ⟨by rw [HE.out, Int.mul_comm]; rfl, B.refl _⟩
    · have hlB : decide ((k : Int) ≤ (N : Int)) = false := decide_eq_false (by omega)
      obtain rfl : k = N + 1 := by omega
      have HE := Lib.hid (HF (i := N + 1) hk (fun j hj => by have := hall j hj; simp only [decide_eq_false_iff_not]; omega) (fun h => by omega))
      clear hall HF
      go_wp2_with fail
      refine (cS _ HT.out).mono ?_
      rintro e w1 ⟨rfl, rfl⟩
      go_wp2
      go_ret
      exact ⟨by rw [HE.out, Int.mul_comm]; rfl, B.refl _⟩
end Go.Proofs.Ytglniapfnhedoaa

namespace Go.Proofs.Ytglniapfnhedoaa
open Go.RowKit
theorem r3low_any (p : Value) (L : List (Int × Int)) (hb : L.length ≤ 600) (i : Int) (w : World) (ht : RTab w p L) :
    Calls Try.prog 32 #[p, .int .i64 i] w fun e w' => e = .returned (.int .i64 (lowT L (nearI L.length i))) ∧ Dr w w' := by
  have htt := ht
  obtain ⟨b, aL, cL, aH, cH, rfl, h1, h2, h3, h4⟩ := ht
  have c := fun w ht => r3near_any (.pointer (some ⟨b, 0, none⟩)) L hb i w ht
  have hn := nearI_le L.length i
  have hc := h1
  have hx := h3 _ hn
  have hnI : (nearI L.length i : Int) < (L.length : Int) + 1 := by omega
  clear h1 h2 h3 h4
  generalize lowT L (nearI L.length i) = X at *
  generalize nearI L.length i = n at *
  obtain ⟨N, hN⟩ : ∃ N, L.length = N := ⟨_, rfl⟩
  rw [hN] at hc hn hnI
  go_enter Try.func32, Try.ntmps32
  go_wp2_with fail
  refine wp_region_noPanic ?_
  refine wp_region_seq (S := fun w' => w'.cell? ⟨b, 0, none⟩ = some (.slice (some aL) (N + 1) cL) ∧ w'.cell? (aL.add n) = some (.int .i64 X) ∧ RTab w' (.pointer (some ⟨b, 0, none⟩)) L ∧ Dr w w') [(0, 0), (1, 0), (2, 0), (3, 0), (4, 0), (5, 0), (6, 2), (7, 0), (8, 0), (9, 0)] [0, 1, 2, 4, 0, 0, 48, 72, 128, 511] [0, 1, 2, 4, 0, 0, 48, 72, 128, 256] (by kernel_rfl) (by kernel_rfl) (fun _ _ _ _ _ h => h) ?_ (fun hH => ?_)
  · exact ⟨by simp [go_sem, hc], by simp [go_sem, hx], htt.keepB (B.refl w).drew, ⟨1, rfl⟩⟩
  refine wpSeq_take (d := 5) (v := ?_) rfl rfl (by kernel_rfl) (fun w hS => ?_) ?_
  rotate_left
  · go_simp <;> with_reducible rfl
  dsimp only [List.set_cons_zero, List.set_cons_succ]
  refine wpSeq_take (d := 6) (v := ?_) rfl rfl (by kernel_rfl) (fun w hS => ?_) ?_
  rotate_left
  · go_simp <;> with_reducible rfl
  dsimp only [List.set_cons_zero, List.set_cons_succ]
  refine wpSeq_take (d := 7) (v := ?_) rfl rfl (by kernel_rfl) (fun w hS => ?_) ?_
  rotate_left
  · go_simp <;> with_reducible rfl
  dsimp only [List.set_cons_zero, List.set_cons_succ]
  refine wpSeq_take (d := 8) (v := ?_) rfl rfl (by kernel_rfl) (fun w hS => ?_) ?_
  rotate_left
  · go_simp <;> with_reducible rfl
  dsimp only [List.set_cons_zero, List.set_cons_succ]
  refine wpSeq_take (d := 9) (v := ?_) rfl rfl (by kernel_rfl) (fun w hS => ?_) ?_
  rotate_left
  · go_simp <;> with_reducible rfl
  dsimp only [List.set_cons_zero, List.set_cons_succ]
  refine wpSeq_take (d := 10) (v := ?_) rfl rfl (by kernel_rfl) (fun w hS => ?_) ?_
  rotate_left
  · go_simp <;> with_reducible rfl
  dsimp only [List.set_cons_zero, List.set_cons_succ]
  refine wpSeq_call rfl (by kernel_rfl) (fun K hK => ?_)
  go_simp
  (with_reducible refine (c _ hH.2.2.1).mono ?_)
  rintro e w' ⟨rfl, rfl⟩
  refine hK.out _ _ hH (fun hH => ?_)
  clear hK
  refine wpSeq_take (d := 12) (v := ?_) rfl rfl (by kernel_rfl) (fun w hS => ?_) ?_
  rotate_left
  · go_simp <;> with_reducible rfl
  dsimp only [List.set_cons_zero, List.set_cons_succ]
  refine wpSeq_take (d := 13) (v := ?_) rfl rfl (by kernel_rfl) (fun w hS => ?_) ?_
  rotate_left
  · go_simp <;> with_reducible rfl
  dsimp only [List.set_cons_zero, List.set_cons_succ]
  refine wpSeq_take (d := 4) (v := ?_) rfl rfl (by kernel_rfl) (fun w hS => ?_) ?_
  rotate_left
  · go_simp <;> with_reducible rfl
  dsimp only [List.set_cons_zero, List.set_cons_succ]
  refine wpSeq_done ?_
  refine NoPanic.normal ?_
  obtain ⟨_, _, _, hd⟩ := hH
  go_wp2
  go_ret
  exact ⟨rfl, hd⟩
theorem r3tall_any (p : Value) (L : List (Int × Int)) (hb : L.length ≤ 600) (w : World) (ht : RTab w p L) :
    Calls Try.prog 31 #[p] w fun e w' => e = .returned (.int .i64 (L.length * 100)) ∧ w = w' := by
  have c := r3slices_any p L hb w ht
  obtain ⟨b, aL, cLL, aH, cHH, rfl, _⟩ := ht
  have w1 : IntKind.i64.wrap ((L.length : Int) * 100) = (L.length : Int) * 100 := wrapI (by omega) (by omega)
  have w2 : IntKind.i64.wrap (L.length : Int) = (L.length : Int) := wrapI (by omega) (by omega)
  go_enter Try.func31, Try.ntmps31
  go_wp2_with fail
  refine c.mono ?_
  rintro e w1 ⟨rfl, rfl⟩
  go_wp2
  go_ret
  exact ⟨rfl, rfl⟩
end Go.Proofs.Ytglniapfnhedoaa

namespace Go.Proofs.Ytglniapfnhedoaa
open Go.RowKit
theorem r3enough_any (p : Value) (L : List (Int × Int)) (x : Int) (w : World) (hb : TBnd L) (ht : RTab w p L) :
    Calls Try.prog 16 #[p, .int .i64 x] w fun e w' => e = .returned (.bool (enM L x)) ∧ B w w' := by
  have cL := fun w ht => r3lvLow_any p L x w hb ht
  unfold enM
  generalize lvLow L x = z at *
  have HT := Lib.hid ht
  obtain ⟨b, aL, cLL, aH, cHH, rfl, _⟩ := ht
  go_enter Try.func16, Try.ntmps16
  go_wp2_with fail
  refine (cL _ HT.out).mono ?_
  rintro e wS ⟨rfl, q⟩
  go_wp2
  go_ret
  exact ⟨rfl, q⟩
theorem r3room_any (p : Value) (L : List (Int × Int)) (x : Int) (w : World) (hb : TBnd L) (ht : RTab w p L) :
    Calls Try.prog 18 #[p, .int .i64 x] w fun e w' => e = .returned (.bool (roM L x)) ∧ B w w' := by
  have cH := fun w ht => r3lvHigh_any p L x w hb ht
  have cT := fun w ht => r3tall_any p L hb.n w ht
  have hn6 := hb.n
  have bh := lvHigh_bnd L x
  unfold roM
  obtain ⟨N, eN⟩ : ∃ N, (L.length : Int) * 100 = N := ⟨_, rfl⟩
  rw [eN] at cT ⊢
  generalize lvHigh L x = z at *
  obtain ⟨s, es⟩ : ∃ s, z + 500 = s := ⟨_, rfl⟩
  have ws : IntKind.i64.wrap (z + 500) = s := by rw [es]; exact wrapI (by omega) (by omega)
  rw [es]
  clear es eN bh hn6
  have HT := Lib.hid ht
  obtain ⟨b, aL, cLL, aH, cHH, rfl, _⟩ := ht
  go_enter Try.func18, Try.ntmps18
  go_wp2_with fail
  refine (cH _ HT.out).mono ?_
  rintro e wS ⟨rfl, q1⟩
  go_wp2_with fail
  refine (cT _ (HT.out.keepB q1)).mono ?_
  rintro e wT ⟨rfl, rfl⟩
  go_wp2
  go_ret
  exact ⟨rfl, q1⟩
theorem r3dead_any (p : Value) (L : List (Int × Int)) (w : World) (hb : TBnd L) (ht : RTab w p L) :
    Calls Try.prog 12 #[p] w fun e w' => e = .returned (.tuple #[.int .i64 (deadV L), .bool (decide (13 ≤ L.length))]) ∧ B w w' := by
  have cS := fun w ht => r3slices_any p L hb.n w ht
  have cH := fun w ht => r3high_any p L hb.n 13 w ht
  have hn6 := hb.n
  have HT := Lib.hid ht
  obtain ⟨bb, aL, cLL, aH, cHH, rfl, _⟩ := ht
  by_cases h : 13 ≤ L.length
  · have b := hb.at 13 h
    have hd : deadV L = (highT L 13 + 999999) / 1000000 := if_pos h
    rw [show nearI L.length 13 = 13 by unfold nearI; omega] at cH
    rw [hd, decide_eq_true h]
    generalize highT L 13 = X at *
    have d1 : decide ((L.length : Int) < 13) = false := decide_eq_false (by omega)
    obtain ⟨s1, e1⟩ : ∃ s, X + 1000000 = s := ⟨_, rfl⟩
    have w1 : IntKind.i64.wrap (X + 1000000) = s1 := by rw [e1]; exact wrapI (by omega) (by omega)
    obtain ⟨s2, e2⟩ : ∃ s, s1 - 1 = s := ⟨_, rfl⟩
    have w2 : IntKind.i64.wrap (s1 - 1) = s2 := by rw [e2]; exact wrapI (by omega) (by omega)
    have t2 : s2.tdiv 1000000 = s2 / 1000000 := Int.tdiv_eq_ediv_of_nonneg (by omega)
    rw [show X + 999999 = s2 by omega]
    have b2 : 0 ≤ s2 / 1000000 ∧ s2 / 1000000 ≤ 30000000 := by omega
    generalize s2 / 1000000 = z at *
    have w3 : IntKind.i64.wrap z = z := wrapI (by omega) (by omega)
    clear b b2 e1 e2 hd hb h hn6
    go_enter Try.func12, Try.ntmps12
    go_wp2_with fail
    refine (cS _ HT.out).mono ?_
    rintro e wS ⟨rfl, rfl⟩
    go_wp2_with fail
    refine (cH _ HT.out).mono ?_
    rintro e wS ⟨rfl, q⟩
    go_wp2
    go_ret2
    exact ⟨rfl, q.q.b⟩
  · have hd : deadV L = 0 := if_neg h
    rw [hd, decide_eq_false h]
    have d1 : decide ((L.length : Int) < 13) = true := decide_eq_true (by omega)
    clear hb h hn6 hd cH
    go_enter Try.func12, Try.ntmps12
    go_wp2_with fail
    refine (cS _ HT.out).mono ?_
    rintro e wS ⟨rfl, rfl⟩
    go_wp2
    go_ret2
    exact ⟨rfl, B.refl _⟩
theorem r3limit_any (p : Value) (L : List (Int × Int)) (w : World) (hb : TBnd L) (ht : RTab w p L) :
    Calls Try.prog 14 #[p] w fun e w' => e = .returned (.tuple #[.int .i64 (limV L), .bool (decide (5 ≤ L.length))]) ∧ B w w' := by
  have cT := fun w ht => r3tall_any p L hb.n w ht
  have cL := fun i w ht => r3low_any p L hb.n i w ht
  have hn6 := hb.n
  have HT := Lib.hid ht
  obtain ⟨bb, aL, cLL, aH, cHH, rfl, _⟩ := ht
  obtain ⟨N, eN⟩ : ∃ N, (L.length : Int) * 100 = N := ⟨_, rfl⟩
  rw [eN] at cT
  obtain ⟨s1, e1⟩ : ∃ s, N - 500 = s := ⟨_, rfl⟩
  have w1 : IntKind.i64.wrap (N - 500) = s1 := by rw [e1]; exact wrapI (by omega) (by omega)
  have t1 : s1.tdiv 100 = (L.length : Int) - 5 := by
    rw [show s1 = ((L.length : Int) - 5) * 100 by omega]; exact Int.mul_tdiv_cancel _ (by omega)
  obtain ⟨m, em⟩ : ∃ m, (L.length : Int) - 5 = m := ⟨_, rfl⟩
  rw [em] at t1
  have w2 : IntKind.i64.wrap m = m := wrapI (by omega) (by omega)
  by_cases h : 5 ≤ L.length
  · have b := hb.at (L.length - 5) (by omega)
    have hd : limV L = lowT L (L.length - 5) / 1000000 := if_pos h
    replace cL := cL m
    rw [show nearI L.length m = L.length - 5 by unfold nearI; omega] at cL
    rw [hd, decide_eq_true h]
    generalize lowT L (L.length - 5) = X at *
    have d1 : decide (N < 500) = false := decide_eq_false (by omega)
    have t2 : X.tdiv 1000000 = X / 1000000 := Int.tdiv_eq_ediv_of_nonneg (by omega)
    have b2 : 0 ≤ X / 1000000 ∧ X / 1000000 ≤ 30000000 := by omega
    generalize X / 1000000 = z at *
    have w3 : IntKind.i64.wrap z = z := wrapI (by omega) (by omega)
    clear b b2 e1 hd hb h hn6 em eN
    go_enter Try.func14, Try.ntmps14
    go_wp2_with fail
    refine (cT _ HT.out).mono ?_
    rintro e wS ⟨rfl, rfl⟩
    go_wp2_with fail
    refine (cT _ HT.out).mono ?_
    rintro e wS ⟨rfl, rfl⟩
    go_wp2_with fail
    refine (cL _ HT.out).mono ?_
    rintro e wS ⟨rfl, q⟩
    go_wp2
    go_ret2
    exact ⟨rfl, q.q.b⟩
  · have hd : limV L = 0 := if_neg h
    rw [hd, decide_eq_false h]
    have d1 : decide (N < 500) = true := decide_eq_true (by omega)
    clear hb h hn6 hd cL e1 em eN
    go_enter Try.func14, Try.ntmps14
    go_wp2_with fail
    refine (cT _ HT.out).mono ?_
    rintro e wS ⟨rfl, rfl⟩
    go_wp2_with fail
    refine (cT _ HT.out).mono ?_
    rintro e wS ⟨rfl, rfl⟩
    go_wp2
    go_ret2
    exact ⟨rfl, B.refl _⟩
end Go.Proofs.Ytglniapfnhedoaa

namespace Go.Proofs.Ytglniapfnhedoaa
open Go.RowKit
set_option maxRecDepth 100000 in
set_option maxHeartbeats 8000000 in
theorem dtells_law {T : World → Value → List (Int × Int) → Prop} (c : TabL T) (k : Int) (v : Value) (n : Nat) (rd : Bool) (vv nn : Int) (hk : (Lit.int .u8 k).wf = true) (hvv : (Lit.int .i64 vv).wf = true) (hnn : (Lit.int .u32 nn).wf = true) (w : World) (hv : IsU16 w v n) :
    Calls Try.prog 3 #[.int .u8 k, v, .bool rd, .int .i64 vv, .int .u32 nn] w fun e w' => e = .returned (.bool true) ∧ B w w' := by
  obtain ⟨k1, k2⟩ := u8_wf hk
  obtain ⟨vv1, vv2⟩ := i64_wf hvv
  obtain ⟨nn1, nn2⟩ := u32_wf hnn
  clear hk hvv hnn
  have c0 := fun w => known15_any c w
  have cW := fun w h => wild_any v n rd w h
  have cK := fun w => shape_any k k1 k2 w
  have rK := shape_right (k % 6).toNat
  generalize shapeOf (k % 6).toNat = lk at *
  obtain ⟨ao, cap0, rfl, hn⟩ := hv.form
  by_cases hn40 : 40 < n
  · have n40 : decide ((40 : Int) < (n : Int)) = true := decide_eq_true (by omega)
    clear hv
    go_enter Try.func3, Try.ntmps3
    go_wp2_with fail
    refine (c0 _).mono ?_
    rintro e w1 ⟨rfl, g⟩
    go_wp2
    go_ret
    exact ⟨rfl, g⟩
  have n40 : decide ((40 : Int) < (n : Int)) = false := decide_eq_false (by omega)
  have HV := Lib.hid hv
  clear hv
  obtain ⟨x1, ex1⟩ : ∃ z, nn % 400000 = z := ⟨_, rfl⟩
  have tx1 : nn.tmod 400000 = x1 := by rw [Int.tmod_eq_emod_of_nonneg (by omega)]; exact ex1
  have bx1 : 0 ≤ x1 ∧ x1 < 400000 := by omega
  have xx1 : IntKind.i64.wrap x1 = x1 := wrapI (by omega) (by omega)
  have yx1 : IntKind.u32.wrap x1 = x1 := wrapU32 (by omega) (by omega)
  go_enter Try.func3, Try.ntmps3
  go_wp2_with fail
  refine (c0 _).mono ?_
  rintro e w1 ⟨rfl, g⟩
  go_wp2_with fail
  refine (cK _).mono ?_
  rintro e w2 ⟨v1, rfl, hv1, q2⟩
  obtain ⟨oo1, nn1, pp1, rfl⟩ := hv1.form
  replace g := g.trans q2.b
  go_wp2_with fail
  refine (cW _ (HV.out.keepB g)).mono ?_
  rintro e w3 ⟨v2, l, rfl, hl, hr, g2⟩
  obtain ⟨oo2, nn2, pp2, rfl⟩ := hl.form
  replace g := g.trans g2
  have T0 := fun t => twoS_new w3 t (.slice oo1 nn1 pp1) (.slice oo2 nn2 pp2) lk l (hv1.keepB g2) hl rK hr
  clear g2 cW c0 HV cK q2 hv1 hl hr rK
  go_wp2
  have T2 := T0 25
  clear T0
  replace g := g.alloc #[.slice oo1 nn1 pp1, .slice oo2 nn2 pp2] 25
  generalize w3.alloc (.cells #[.slice oo1 nn1 pp1, .slice oo2 nn2 pp2] 25) = W1 at *
  generalize w3.heap.size = bb at *
  have G0 := Lib.hid g
  clear g
  go_loopw [43] (fun i wr => ∃ m : Nat, m ≤ 2 ∧ i = .int .i64 m ∧ B W1 wr) (fun i _ => 2 - (intOf i).toNat)
  case atStart => exact ⟨0, Nat.zero_le _, rfl, B.refl _⟩
  case round =>
    obtain ⟨m, hm, rfl, g⟩ := hrel
    by_cases hm2 : m < 2
    · have hmB : decide ((m : Int) < 2) = true := decide_eq_true (by omega)
      obtain ⟨vs, ls, hc, hsecs, hrs⟩ := (T2.keep g) m hm2
      obtain ⟨os, ns, ps, rfl⟩ := hsecs.form
      have cO := fun w h => c.yes (.slice os ns ps) ls w h hrs
      have cR := fun w h => r3of_any (.slice os ns ps) ls w h
      have HR := Lib.hid hrs
      have hb := tbnd_of hrs
      have hL := slAll_pos hrs
      generalize eL : slAll ls = L at *
      go_wp2_with fail
      refine (cO _ hsecs).mono ?_
      rintro e w4 ⟨pt, rfl, ht, h⟩
      replace g := g.trans h
      go_wp2_with fail
      refine (cR _ (hsecs.keepB h)).mono ?_
      rintro e w5 hR
      obtain ⟨pw, rfl, hw, h5⟩ : ∃ pw, e = .returned (.tuple #[pw, .bool true]) ∧ RTab w5 pw L ∧ B w4 w5 := by
        rcases hR with ⟨_, p, h1, h2, h3⟩ | ⟨h0, _⟩
        · exact ⟨p, h1, eL ▸ h2, h3⟩
        · rw [HR.out] at h0; cases h0
      clear hR HR eL
      replace ht := c.keep ht h5
      replace g := g.trans h5
      clear h5 cR
      obtain ⟨pw, rfl⟩ : ∃ a, pw = .pointer (some a) := by obtain ⟨b, _, _, _, _, h0, _⟩ := hw; exact ⟨_, h0⟩
      clear h cO hsecs hc hrs
      have hn6 := hb.n
      have cV := fun w h => dvol_any c (.pointer (some pt)) L w hb h
      have cM := fun w h => dlim_any c (.pointer (some pt)) L w hb h
      have rV := fun w h => r3dead_any (.pointer (some pw)) L w hb h
      have rM := fun w h => r3limit_any (.pointer (some pw)) L w hb h
      have bv := deadV_bnd hb
      have bl := limV_bnd hb
      generalize deadV L = V at *
      generalize limV L = M at *
      generalize decide (13 ≤ L.length) = is1 at *
      generalize decide (5 ≤ L.length) = is2 at *
      obtain ⟨Vm, eV⟩ : ∃ z, V - 1 = z := ⟨_, rfl⟩
      obtain ⟨Mp, eM⟩ : ∃ z, M + 1 = z := ⟨_, rfl⟩
      have wV : IntKind.i64.wrap (V - 1) = Vm := by rw [eV]; exact wrapI (by omega) (by omega)
      have wM : IntKind.i64.wrap (M + 1) = Mp := by rw [eM]; exact wrapI (by omega) (by omega)
      obtain ⟨xs, exs⟩ : ∃ xs : Nat → Int, xs = fun m => [vv, x1, V, Vm, M, Mp].getD m 0 := ⟨_, rfl⟩
      have nums6 : ∀ (w : World) (t : TypeId) m, m < 6 → (w.alloc (.cells #[.int .i64 vv, .int .i64 x1, .int .i64 V, .int .i64 Vm, .int .i64 M, .int .i64 Mp] t)).cell? ⟨w.heap.size, m, none⟩ = some (.int .i64 (xs m)) := fun w t m hm => by
        subst exs
        rw [World.cell?_alloc_new]
        match m, hm with
        | 0, _ => rfl
        | 1, _ => rfl
        | 2, _ => rfl
        | 3, _ => rfl
        | 4, _ => rfl
        | 5, _ => rfl
      clear exs eV eM bv bl hn6
      go_wp2_with fail
      refine (cV _ ht).mono ?_
      rintro e wS ⟨rfl, q⟩
      replace g := g.trans q
      replace ht := c.keep ht q
      replace hw := hw.keepB q
      clear q
      go_wp2_with fail
      refine (rV _ hw).mono ?_
      rintro e wS ⟨rfl, q⟩
      replace g := g.trans q
      replace ht := c.keep ht q
      replace hw := hw.keepB q
      clear q
      go_wp2_with fail
      refine (cM _ ht).mono ?_
      rintro e wS ⟨rfl, q⟩
      replace g := g.trans q
      replace ht := c.keep ht q
      replace hw := hw.keepB q
      clear q
      go_wp2_with fail
      refine (rM _ hw).mono ?_
      rintro e wS ⟨rfl, q⟩
      replace g := g.trans q
      replace ht := c.keep ht q
      replace hw := hw.keepB q
      clear q
      obtain ⟨w8, rfl⟩ : ∃ w8 : World, w8 = wS := ⟨_, rfl⟩
      go_wp2
      have n6 := nums6 w8 2
      replace ht := c.keep ht ((B.refl w8).alloc #[.int .i64 vv, .int .i64 x1, .int .i64 V, .int .i64 Vm, .int .i64 M, .int .i64 Mp] 2)
      replace hw := hw.keepB ((B.refl w8).alloc #[.int .i64 vv, .int .i64 x1, .int .i64 V, .int .i64 Vm, .int .i64 M, .int .i64 Mp] 2)
      replace g := g.alloc #[.int .i64 vv, .int .i64 x1, .int .i64 V, .int .i64 Vm, .int .i64 M, .int .i64 Mp] 2
      generalize w8.alloc (.cells #[.int .i64 vv, .int .i64 x1, .int .i64 V, .int .i64 Vm, .int .i64 M, .int .i64 Mp] 2) = W5 at *
      generalize w8.heap.size = b5 at *
      have HT := Lib.hid ht
      have HW := Lib.hid hw
      have HG := Lib.hid g
      clear ht hw g nums6
      obtain ⟨wo, rfl⟩ : ∃ wo : World, wo = wr := ⟨_, rfl⟩
      go_loopw [119] (fun i wr => ∃ j : Nat, j ≤ 6 ∧ i = .int .i64 j ∧ T wr (.pointer (some pt)) L ∧ RTab wr (.pointer (some pw)) L ∧ B W5 wr) (fun i _ => 6 - (intOf i).toNat)
      case atStart => exact ⟨0, Nat.zero_le _, rfl, HT.out, HW.out, B.refl _⟩
      case round =>
        clear HT HW
        obtain ⟨j, hj, rfl, ht, hw, g⟩ := hrel
        by_cases hj6 : j < 6
        · have hjB : decide ((j : Int) < 6) = true := decide_eq_true (by omega)
          have hjI : (j : Int) < 6 := by omega
          have hcx := g.keep (n6 j hj6)
          generalize xs j = x at *
          have a1 := fun w h => enough_any c (.pointer (some pt)) L x w hb h
          have a2 := fun w h => room_any c (.pointer (some pt)) L x w hb h
          have r1 := fun w h => r3enough_any (.pointer (some pw)) L x w hb h
          have r2 := fun w h => r3room_any (.pointer (some pw)) L x w hb h
          generalize enM L x = z1 at *
          generalize roM L x = z2 at *
          go_wp2_with fail
          refine (a1 _ ht).mono ?_
          rintro e wS ⟨rfl, q⟩
          replace g := g.trans q
          replace ht := c.keep ht q
          replace hw := hw.keepB q
          clear q
          go_wp2_with fail
          refine (r1 _ hw).mono ?_
          rintro e wS ⟨rfl, q⟩
          replace g := g.trans q
          replace ht := c.keep ht q
          replace hw := hw.keepB q
          clear q
          go_wp2_with fail
          refine (a2 _ ht).mono ?_
          rintro e wS ⟨rfl, q⟩
          replace g := g.trans q
          replace ht := c.keep ht q
          replace hw := hw.keepB q
          clear q
          go_wp2_with fail
          refine (r2 _ hw).mono ?_
          rintro e wS ⟨rfl, q⟩
          replace g := g.trans q
          replace ht := c.keep ht q
          replace hw := hw.keepB q
          clear q
          go_wp2
          go_roundw
          case rel => exact ⟨j + 1, by omega, by go_num, ht, hw, g⟩
          case measure => simp [intOf]; omega
        · have hjB : decide ((j : Int) < 6) = false := decide_eq_false (by omega)
          replace g := HG.out.trans g
          go_wp2
          go_roundw
          case rel => exact ⟨m + 1, by omega, by go_num, g⟩
          case measure => simp [intOf]; omega
    · have hmB : decide ((m : Int) < 2) = false := decide_eq_false (by omega)
      replace g := G0.out.trans g
      have z1 := dvol_nil
      have z2 := dlim_nil
      have z3 := enough_nil vv
      have z4 := room_nil vv
      go_wp2_with fail
      refine (z1 _).mono ?_
      rintro e wS ⟨rfl, q⟩
      replace g := g.trans q
      clear q
      go_wp2_with fail
      refine (z2 _).mono ?_
      rintro e wS ⟨rfl, q⟩
      replace g := g.trans q
      clear q
      go_wp2_with fail
      refine (z3 _).mono ?_
      rintro e wS ⟨rfl, q⟩
      replace g := g.trans q
      clear q
      go_wp2_with fail
      refine (z4 _).mono ?_
      rintro e wS ⟨rfl, q⟩
      replace g := g.trans q
      clear q
      go_wp2
      go_ret
      exact ⟨rfl, g⟩
end Go.Proofs.Ytglniapfnhedoaa

namespace Go.Proofs.Ytglniapfnhedoaa
open Go.RowKit
theorem deadtells_ok (k : Int) (v : Value) (n : Nat) (rd : Bool) (vv nn : Int) (hk : (Lit.int .u8 k).wf = true) (hvv : (Lit.int .i64 vv).wf = true) (hnn : (Lit.int .u32 nn).wf = true) (w : World) (hv : IsU16 w v n) :
    Calls Try.prog 3 #[.int .u8 k, v, .bool rd, .int .i64 vv, .int .u32 nn] w fun e w' => e = .returned (.bool true) ∧ B w w' :=
  dtells_law tab_lcode k v n rd vv nn hk hvv hnn w hv
theorem deadedges_ok (k : Int) (v : Value) (n : Nat) (rd : Bool) (hk : (Lit.int .u8 k).wf = true) (w : World) (hv : IsU16 w v n) :
    Calls Try.prog 4 #[.int .u8 k, v, .bool rd] w fun e w' => e = .returned (.bool true) ∧ B w w' :=
  dedges_law tab_lcode k v n rd hk w hv
theorem deadlines_ok (k : Int) (v : Value) (n : Nat) (rd : Bool) (nn more : Int) (hk : (Lit.int .u8 k).wf = true) (hnn : (Lit.int .u32 nn).wf = true) (hmore : (Lit.int .u16 more).wf = true) (w : World) (hv : IsU16 w v n) :
    Calls Try.prog 5 #[.int .u8 k, v, .bool rd, .int .u32 nn, .int .u16 more] w fun e w' => e = .returned (.bool true) ∧ B w w' :=
  dlines_law tab_lcode k v n rd nn more hk hnn hmore w hv
end Go.Proofs.Ytglniapfnhedoaa
