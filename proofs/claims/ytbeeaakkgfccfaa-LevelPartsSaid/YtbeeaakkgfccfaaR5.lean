/-
  Contracts of the document's own levels.
-/
import Derived.Test.YtbeeaakkgfccfaaLvm
import Derived.Lib.MinMax
namespace Go.Proofs.Ytbeeaakkgfccfaa
open Go.RowKit

theorem r3cubic_any (v : Int) (w : World) : Calls Try.prog 32 #[.int .i64 v] w fun e w' => e = .returned (.int .i64 (cubM v)) ∧ w = w' := by
  unfold cubM
  obtain ⟨m, e1⟩ : ∃ m, max v 0 = m := ⟨_, rfl⟩
  obtain ⟨q, e2⟩ : ∃ q, min m 1000000000 = q := ⟨_, rfl⟩
  rw [e1, e2]
  have w1 : IntKind.i64.wrap (q * 1000000) = q * 1000000 := wrapI (by omega) (by omega)
  go_enter Try.func32, Try.ntmps32
  go_wp2
  go_ret
  exact ⟨rfl, rfl⟩

set_option maxHeartbeats 2000000 in
theorem r3lvLow_any (p : Value) (L : List (Int × Int)) (v : Int) (w : World) (hb : TBnd L) (ht : RTab w p L) :
    Calls Try.prog 15 #[p, .int .i64 v] w fun e w' => e = .returned (.int .i64 (lvLow L v)) ∧ B w w' := by
  have cC := fun w => r3cubic_any v w
  have cS := fun w ht => r3slices_any p L hb.n w ht
  have cH := fun i w ht => r3high_any p L hb.n i w ht
  obtain ⟨x0, x1⟩ := cub_bnd v
  have hn6 := hb.n
  unfold lvLow
  generalize cubM v = x at *
  have HF := @firstIx_is L.length (fun i => decide (x < highT L (i + 1)))
  generalize firstIx L.length (fun i => decide (x < highT L (i + 1))) = F at *
  have HT := Lib.hid ht
  clear ht
  go_enter Try.func15, Try.ntmps15
  go_wp2_with fail
  refine (cC _).mono ?_
  rintro e w1 ⟨rfl, rfl⟩
  clear cC
  go_wp2
  go_loopw [6] (fun i wr => ∃ k : Nat, k ≤ L.length ∧ i = .int .i64 k ∧ (∀ j, j < k → highT L (j + 1) ≤ x) ∧ RTab wr p L ∧ B w wr) (fun i _ => L.length + 1 - (intOf i).toNat)
  case atStart => exact ⟨0, Nat.zero_le _, rfl, fun j hj => by omega, HT.out, B.refl _⟩
  case round =>
    clear HT
    obtain ⟨k, hk, rfl, hall, ht, g⟩ := hrel
    have wk : IntKind.i64.wrap ((k : Int) * 100) = (k : Int) * 100 := wrapI (by omega) (by omega)
    have wk1 : IntKind.i64.wrap ((k : Int) + 1) = (k : Int) + 1 := wrapI (by omega) (by omega)
    by_cases hl : k < L.length
    · have hlB : decide ((k : Int) < (L.length : Int)) = true := decide_eq_true (by omega)
      have e1 : nearI L.length ((k : Int) + 1) = k + 1 := by unfold nearI; omega
      have cHk := cH ((k : Int) + 1)
      rw [e1] at cHk
      by_cases hx : highT L (k + 1) ≤ x
      · have hxB : decide (highT L (k + 1) ≤ x) = true := decide_eq_true hx
        have hall' : ∀ j, j < k + 1 → highT L (j + 1) ≤ x := fun j hj => by
          by_cases c : j = k
          · subst c; exact hx
          · exact hall j (by omega)
        have HA := Lib.hid hall'
        clear hall hall' hx HF cH
        generalize highT L (k + 1) = Y at *
        go_wp2_with fail
        refine (cS _ ht).mono ?_
        rintro e w1 ⟨rfl, rfl⟩
        go_wp2_with fail
        refine (cHk _ ht).mono ?_
        rintro e w2 ⟨rfl, q⟩
        replace ht := ht.keepB q.q.b
        replace g := g.trans q.q.b
        go_wp2
        go_roundw
        case rel => exact ⟨k + 1, by omega, by go_num, HA.out, ht, g⟩
        case measure => simp [intOf]; omega
      · have hxB : decide (highT L (k + 1) ≤ x) = false := decide_eq_false hx
        have HE := Lib.hid (HF (i := k) hk (fun j hj => by have := hall j hj; simp only [decide_eq_false_iff_not]; omega) (fun _ => by simp only [decide_eq_true_eq]; omega))
        clear hall hx HF cH
        generalize highT L (k + 1) = Y at *
        go_wp2_with fail
        refine (cS _ ht).mono ?_
        rintro e w1 ⟨rfl, rfl⟩
        go_wp2_with fail
        refine (cHk _ ht).mono ?_
        rintro e w2 ⟨rfl, q⟩
        replace g := g.trans q.q.b
        go_wp2
        go_ret
        exact ⟨by rw [HE.out, Int.mul_comm]; rfl, g⟩
    · have hlB : decide ((k : Int) < (L.length : Int)) = false := decide_eq_false (by omega)
      obtain rfl : k = L.length := by omega
      have HE := Lib.hid (HF (i := L.length) hk (fun j hj => by have := hall j hj; simp only [decide_eq_false_iff_not]; omega) (fun h => by omega))
      clear hall HF cH
      go_wp2_with fail
      refine (cS _ ht).mono ?_
      rintro e w1 ⟨rfl, rfl⟩
      go_wp2
      go_ret
      exact ⟨by rw [HE.out, Int.mul_comm]; rfl, g⟩

set_option maxHeartbeats 2000000 in
theorem r3lvHigh_any (p : Value) (L : List (Int × Int)) (v : Int) (w : World) (hb : TBnd L) (ht : RTab w p L) :
    Calls Try.prog 17 #[p, .int .i64 v] w fun e w' => e = .returned (.int .i64 (lvHigh L v)) ∧ B w w' := by
  have cC := fun w => r3cubic_any v w
  have cS := fun w ht => r3slices_any p L hb.n w ht
  obtain ⟨x0, x1⟩ := cub_bnd v
  have hn6 := hb.n
  unfold lvHigh
  generalize cubM v = x at *
  have HF := @firstIx_is (L.length + 1) (fun i => decide (x ≤ lowT L i))
  generalize firstIx (L.length + 1) (fun i => decide (x ≤ lowT L i)) = F at *
  obtain ⟨b, aL, cL, aH, cHH, rfl, h1, h2, h3, h4⟩ := ht
  have ht : RTab w (.pointer (some ⟨b, 0, none⟩)) L := ⟨b, aL, cL, aH, cHH, rfl, h1, h2, h3, h4⟩
  have H3 := Lib.hid h3
  have HT := Lib.hid ht
  clear h2 h3 h4 ht
  obtain ⟨N, hN⟩ : ∃ N, L.length = N := ⟨_, rfl⟩
  rw [hN] at cS hn6 HF h1
  go_enter Try.func17, Try.ntmps17
  go_wp2_with fail
  refine (cC _).mono ?_
  rintro e w1 ⟨rfl, rfl⟩
  clear cC
  go_wp2
  go_loopw [6] (fun i wr => ∃ k : Nat, k ≤ N + 1 ∧ i = .int .i64 k ∧ (∀ j, j < k → lowT L j < x) ∧ w = wr) (fun i _ => N + 2 - (intOf i).toNat)
  case atStart => exact ⟨0, Nat.zero_le _, rfl, fun j hj => by omega, rfl⟩
  case round =>
    obtain ⟨k, hk, rfl, hall, rfl⟩ := hrel
    have wk : IntKind.i64.wrap ((k : Int) * 100) = (k : Int) * 100 := wrapI (by omega) (by omega)
    have wk1 : IntKind.i64.wrap ((k : Int) + 1) = (k : Int) + 1 := wrapI (by omega) (by omega)
    by_cases hl : k ≤ N
    · have hlB : decide ((k : Int) ≤ (N : Int)) = true := decide_eq_true (by omega)
      have hlI : (k : Int) < (N : Int) + 1 := by omega
      have hc := H3.out k (by omega)
      by_cases hx : lowT L k < x
      · have hxB : decide (lowT L k < x) = true := decide_eq_true hx
        have hall' : ∀ j, j < k + 1 → lowT L j < x := fun j hj => by
          by_cases c : j = k
          · subst c; exact hx
          · exact hall j (by omega)
        have HA := Lib.hid hall'
        clear hall hall' hx HF
        generalize lowT L k = Y at *
        go_wp2_with fail
        refine (cS _ HT.out).mono ?_
        rintro e w1 ⟨rfl, rfl⟩
        go_wp2
        go_roundw
        case rel => exact ⟨k + 1, by omega, by go_num, HA.out, trivial⟩
        case measure => simp [intOf]; omega
      · have hxB : decide (lowT L k < x) = false := decide_eq_false hx
        have HE := Lib.hid (HF (i := k) (by omega) (fun j hj => by have := hall j hj; simp only [decide_eq_false_iff_not]; omega) (fun _ => by simp only [decide_eq_true_eq]; omega))
        clear hall hx HF
        generalize lowT L k = Y at *
        go_wp2_with fail
        refine (cS _ HT.out).mono ?_
        rintro e w1 ⟨rfl, rfl⟩
        go_wp2
        go_ret
        exact ⟨by rw [HE.out, Int.mul_comm]; rfl, B.refl _⟩
    · have hlB : decide ((k : Int) ≤ (N : Int)) = false := decide_eq_false (by omega)
      obtain rfl : k = N + 1 := by omega
      have HE := Lib.hid (HF (i := N + 1) hk (fun j hj => by have := hall j hj; simp only [decide_eq_false_iff_not]; omega) (fun h => by omega))
      clear hall HF
      go_wp2_with fail
      refine (cS _ HT.out).mono ?_
      rintro e w1 ⟨rfl, rfl⟩
      go_wp2
      go_ret
      exact ⟨by rw [HE.out, Int.mul_comm]; rfl, B.refl _⟩

set_option maxHeartbeats 4000000 in
theorem r3lvTrue_any (p : Value) (L : List (Int × Int)) (v part : Int) (w : World) (hb : TBnd L) (ht : RTab w p L) :
    Calls Try.prog 19 #[p, .int .i64 v, .int .i64 part] w fun e w' => e = .returned (.int .i64 (lvTrue L v part)) ∧ B w w' := by
  have cC := fun w => r3cubic_any v w
  have cS := fun w ht => r3slices_any p L hb.n w ht
  have cT : ∀ (k : Nat), k ≤ L.length → ∀ w, RTab w p L → Calls Try.prog 23 #[p, .int .i64 k, .int .i64 part] w fun e w' => e = .returned (.int .i64 (trI L part k)) ∧ Dr w w' := fun k hk w ht => by
    have := r3true_any p L hb k part w ht
    rwa [nearI_of _ _ hk] at this
  have cHt := fun w ht => r3tall_any p L hb.n w ht
  obtain ⟨x0, x1⟩ := cub_bnd v
  have hn6 := hb.n
  have hbt : ∀ k, k ≤ L.length → 0 ≤ trI L part k ∧ trI L part k ≤ 24000000000000 := fun k hk => by
    have a := hb.at k hk; have b := trI_bnd hb part k hk; omega
  have hz := trI_zero L part
  unfold lvTrue
  generalize cubM v = x at *
  have hmid := lvT_mid (t := trI L part) (n := L.length) (x := x) hz
  have hover := (lvT_bnd (t := trI L part) (n := L.length) (x := x) hz x0).2.2.2
  have hzero : ¬ trI L part L.length < x → x = 0 → lvT (trI L part) L.length x = 0 := fun h1 h2 => by unfold lvT; rw [if_neg h1, if_pos h2]
  generalize lvT (trI L part) L.length x = R at *
  generalize trI L part = t at *
  have HT := Lib.hid ht
  clear ht
  by_cases ho : t L.length < x
  · have hoB : decide (t L.length < x) = true := decide_eq_true ho
    have HR := Lib.hid (hover ho)
    have cTn := cT L.length (Nat.le_refl _)
    have w1 : IntKind.i64.wrap ((L.length : Int) * 100 + 1) = (L.length : Int) * 100 + 1 := wrapI (by omega) (by omega)
    clear hmid hover hzero hbt cT hz ho
    generalize t L.length = Y at *
    go_enter Try.func19, Try.ntmps19
    go_wp2_with fail
    refine (cC _).mono ?_
    rintro e w1 ⟨rfl, rfl⟩
    go_wp2_with fail
    refine (cS _ HT.out).mono ?_
    rintro e w1 ⟨rfl, rfl⟩
    go_wp2_with fail
    refine (cTn _ HT.out).mono ?_
    rintro e w1 ⟨rfl, q⟩
    go_wp2_with fail
    refine (cHt _ (HT.out.keepB q.q.b)).mono ?_
    rintro e w2 ⟨rfl, rfl⟩
    go_wp2
    go_ret
    exact ⟨by rw [HR.out, Int.mul_comm 100]; rfl, q.q.b⟩
  have hoB : decide (t L.length < x) = false := decide_eq_false ho
  by_cases h0 : x = 0
  · have HR := Lib.hid (hzero ho h0)
    subst h0
    have cTn := cT L.length (Nat.le_refl _)
    clear hmid hover hzero hbt cT hz ho
    generalize t L.length = Y at *
    go_enter Try.func19, Try.ntmps19
    go_wp2_with fail
    refine (cC _).mono ?_
    rintro e w1 ⟨rfl, rfl⟩
    go_wp2_with fail
    refine (cS _ HT.out).mono ?_
    rintro e w1 ⟨rfl, rfl⟩
    go_wp2_with fail
    refine (cTn _ HT.out).mono ?_
    rintro e w1 ⟨rfl, q⟩
    go_wp2
    go_ret
    exact ⟨by rw [HR.out]; rfl, q.q.b⟩
  have h0B : (x == 0) = false := by simpa using h0
  obtain ⟨i, i1, i2, i3, i4, hR⟩ := hmid (by omega) (by omega)
  have HF := @firstIx_is (L.length + 1) (fun i => decide (x ≤ t i))
  rw [i1] at HF
  have HR := Lib.hid hR
  have cTn := cT L.length (Nat.le_refl _)
  have cTi := cT i (by omega)
  have cTi1 := cT (i + 1) i2
  have bi := hbt i (by omega)
  have bi1 := hbt (i + 1) i2
  obtain ⟨d, ed⟩ : ∃ d, t (i + 1) - t i = d := ⟨_, rfl⟩
  obtain ⟨y, ey⟩ : ∃ y, (x - t i) * 100 = y := ⟨_, rfl⟩
  rw [ed, ey] at HR
  have hd0 : ¬ d = 0 := by omega
  have fb : 0 ≤ y / d ∧ y / d ≤ 100 := by
    have := frac_bnd i3 i4
    rw [ed, ey] at this
    exact ⟨this.1, this.2.1⟩
  have u1 : IntKind.i64.wrap ((i : Int) * 100) = (i : Int) * 100 := wrapI (by omega) (by omega)
  have u1' : IntKind.i64.wrap (((i + 1 : Nat) : Int) - 1) = (i : Int) := by rw [show ((i + 1 : Nat) : Int) - 1 = (i : Int) by omega]; exact wrapI (by omega) (by omega)
  have u2 : IntKind.i64.wrap (x - t i) = x - t i := wrapI (by omega) (by omega)
  have u3 : IntKind.i64.wrap ((x - t i) * 100) = y := by rw [ey]; exact wrapI (by omega) (by omega)
  have u4 : IntKind.i64.wrap (t (i + 1) - t i) = d := by rw [ed]; exact wrapI (by omega) (by omega)
  have u5 : y.tdiv d = y / d := Int.tdiv_eq_ediv_of_nonneg (by omega)
  have u6 : IntKind.i64.wrap (y / d) = y / d := wrapI (by omega) (by omega)
  have u7 : IntKind.i64.wrap ((i : Int) * 100 + y / d) = (i : Int) * 100 + y / d := wrapI (by omega) (by omega)
  clear hover hzero hbt i1 hmid hR
  generalize y / d = z at *
  go_enter Try.func19, Try.ntmps19
  go_wp2_with fail
  refine (cC _).mono ?_
  rintro e w1 ⟨rfl, rfl⟩
  go_wp2_with fail
  refine (cS _ HT.out).mono ?_
  rintro e w1 ⟨rfl, rfl⟩
  go_wp2_with fail
  refine (cTn _ HT.out).mono ?_
  rintro e w1 ⟨rfl, q⟩
  have ht1 := HT.out.keepB q.q.b
  have g1 := q.q.b
  have HT1 := Lib.hid ht1
  clear ht1 q HT cC cS cTn
  go_wp2
  go_loopw [8] (fun i wr => ∃ k : Nat, k ≤ L.length ∧ i = .int .i64 k ∧ (∀ j, j < k → t j < x) ∧ RTab wr p L ∧ B w wr) (fun i _ => L.length + 1 - (intOf i).toNat)
  case atStart => exact ⟨0, Nat.zero_le _, rfl, fun j hj => by omega, HT1.out, g1⟩
  case round =>
    clear HT1 g1
    obtain ⟨k, hk, rfl, hall, ht, g⟩ := hrel
    have wk1 : IntKind.i64.wrap ((k : Int) + 1) = (k : Int) + 1 := wrapI (by omega) (by omega)
    by_cases hx : t k < x
    · have hxB : decide (t k < x) = true := decide_eq_true hx
      have hkl : k < L.length := by
        by_cases c : k = L.length
        · subst c; exact absurd hx (by omega)
        · omega
      have hall' : ∀ j, j < k + 1 → t j < x := fun j hj => by
        by_cases c : j = k
        · subst c; exact hx
        · exact hall j (by omega)
      have HA := Lib.hid hall'
      have cTk := cT k hk
      clear hall hall' hx HF cTi cTi1 cT u1 u1' u2 u3 u4 u5 u6 u7
      generalize t k = Y at *
      go_wp2_with fail
      refine (cTk _ ht).mono ?_
      rintro e w1 ⟨rfl, q⟩
      replace ht := ht.keepB q.q.b
      replace g := g.trans q.q.b
      go_wp2
      go_roundw
      case rel => exact ⟨k + 1, by omega, by go_num, HA.out, ht, g⟩
      case measure => simp [intOf]; omega
    · have hk1 := HF (i := k) (by omega) (fun j hj => by have := hall j hj; simp only [decide_eq_false_iff_not]; omega) (fun _ => by simp only [decide_eq_true_eq]; omega)
      subst hk1
      have hxB : decide (t (i + 1) < x) = false := decide_eq_false hx
      clear hall hx HF cT wk1
      generalize t (i + 1) = Y1 at *
      generalize t i = Y0 at *
      go_wp2_with fail
      refine (cTi1 _ ht).mono ?_
      rintro e w1 ⟨rfl, q⟩
      replace ht := ht.keepB q.q.b
      replace g := g.trans q.q.b
      go_wp2_with fail
      refine (cTi _ ht).mono ?_
      rintro e w2 ⟨rfl, q2⟩
      replace ht := ht.keepB q2.q.b
      replace g := g.trans q2.q.b
      go_wp2_with fail
      refine (cTi1 _ ht).mono ?_
      rintro e w3 ⟨rfl, q3⟩
      replace g := g.trans q3.q.b
      go_wp2
      go_ret
      exact ⟨by rw [HR.out, Int.mul_comm 100]; rfl, g⟩

set_option maxHeartbeats 2000000 in
theorem r3lvVol_any (p : Value) (L : List (Int × Int)) (h : Int) (up : Bool) (w : World) (hb : TBnd L) (ht : RTab w p L) :
    Calls Try.prog 21 #[p, .int .i64 h, .bool up] w fun e w' => e = .returned (.int .i64 (lvVol L h up)) ∧ B w w' := by
  have cT := fun w ht => r3tall_any p L hb.n w ht
  have hn6 := hb.n
  obtain ⟨m, em⟩ : ∃ m, max h 0 = m := ⟨_, rfl⟩
  obtain ⟨N, eN⟩ : ∃ N : Int, (L.length : Int) * 100 = N := ⟨_, rfl⟩
  obtain ⟨H, eH⟩ : ∃ H, min m N = H := ⟨_, rfl⟩
  have eg : hgtM L h = H := by unfold hgtM; rw [em, eN, eH]
  rw [eN] at cT
  unfold lvVol
  rw [eg]
  have HT := Lib.hid ht
  clear ht
  cases up
  · obtain ⟨k, ek⟩ : ∃ k : Nat, (H / 100).toNat = k := ⟨_, rfl⟩
    have hk : k ≤ L.length := by omega
    have u1 : H.tdiv 100 = (k : Int) := by rw [Int.tdiv_eq_ediv_of_nonneg (by omega)]; omega
    have cL := fun w ht => r3low_any p L hb.n k w ht
    rw [nearI_of _ _ hk] at cL
    have bk := hb.at k hk
    rw [ek]
    generalize lowT L k = Y at *
    have u2 : Y.tdiv 1000000 = Y / 1000000 := Int.tdiv_eq_ediv_of_nonneg (by omega)
    have u3 : IntKind.i64.wrap (Y / 1000000) = Y / 1000000 := wrapI (by omega) (by omega)
    have u4 : IntKind.i64.wrap (k : Int) = (k : Int) := wrapI (by omega) (by omega)
    generalize Y / 1000000 = Z at *
    clear bk eg ek
    go_enter Try.func21, Try.ntmps21
    go_wp2_with fail
    refine (cT _ HT.out).mono ?_
    rintro e w1 ⟨rfl, rfl⟩
    go_wp2_with fail
    refine (cL _ HT.out).mono ?_
    rintro e w2 ⟨rfl, q⟩
    go_wp2
    go_ret
    exact ⟨by simp, q.q.b⟩
  · obtain ⟨k, ek⟩ : ∃ k : Nat, ((H + 99) / 100).toNat = k := ⟨_, rfl⟩
    have hk : k ≤ L.length := by omega
    obtain ⟨z1, ez1⟩ : ∃ z, H + 100 = z := ⟨_, rfl⟩
    obtain ⟨z2, ez2⟩ : ∃ z, z1 - 1 = z := ⟨_, rfl⟩
    have u0 : IntKind.i64.wrap (H + 100) = z1 := by rw [ez1]; exact wrapI (by omega) (by omega)
    have u0' : IntKind.i64.wrap (z1 - 1) = z2 := by rw [ez2]; exact wrapI (by omega) (by omega)
    have u1 : z2.tdiv 100 = (k : Int) := by rw [Int.tdiv_eq_ediv_of_nonneg (by omega)]; omega
    have cL := fun w ht => r3high_any p L hb.n k w ht
    rw [nearI_of _ _ hk] at cL
    have bk := hb.at k hk
    rw [ek]
    generalize highT L k = Y at *
    obtain ⟨y1, ey1⟩ : ∃ z, Y + 1000000 = z := ⟨_, rfl⟩
    obtain ⟨y2, ey2⟩ : ∃ z, y1 - 1 = z := ⟨_, rfl⟩
    have v0 : IntKind.i64.wrap (Y + 1000000) = y1 := by rw [ey1]; exact wrapI (by omega) (by omega)
    have v0' : IntKind.i64.wrap (y1 - 1) = y2 := by rw [ey2]; exact wrapI (by omega) (by omega)
    have ey3 : Y + 999999 = y2 := by omega
    rw [ey3]
    have u2 : y2.tdiv 1000000 = y2 / 1000000 := Int.tdiv_eq_ediv_of_nonneg (by omega)
    have u3 : IntKind.i64.wrap (y2 / 1000000) = y2 / 1000000 := wrapI (by omega) (by omega)
    have u4 : IntKind.i64.wrap (k : Int) = (k : Int) := wrapI (by omega) (by omega)
    generalize y2 / 1000000 = Z at *
    clear bk eg ek ez1 ez2 ey1 ey2 ey3
    go_enter Try.func21, Try.ntmps21
    go_wp2_with fail
    refine (cT _ HT.out).mono ?_
    rintro e w1 ⟨rfl, rfl⟩
    go_wp2_with fail
    refine (cL _ HT.out).mono ?_
    rintro e w2 ⟨rfl, q⟩
    go_wp2
    go_ret
    exact ⟨by simp, q.q.b⟩
end Go.Proofs.Ytbeeaakkgfccfaa
