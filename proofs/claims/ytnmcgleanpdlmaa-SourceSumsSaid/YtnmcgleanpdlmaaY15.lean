/-
  The document's own areas; The document's own tables: made of a shape; The document's own tables: of any shape; The document's boards: New.
-/
import Derived.Deep.CutRange
import Derived.Lib.MinMax
import Derived.Laws.Strings2
import Derived.Laws.Slices
import Derived.KernelRfl
import Derived.Test.YtnmcgleanpdlmaaY1
import Derived.Test.YtnmcgleanpdlmaaY2
import Derived.Test.YtnmcgleanpdlmaaY3
import Derived.Test.YtnmcgleanpdlmaaY4
import Derived.Test.YtnmcgleanpdlmaaY5
import Derived.Test.YtnmcgleanpdlmaaY6
import Derived.Test.YtnmcgleanpdlmaaY7
import Derived.Test.YtnmcgleanpdlmaaY8
import Derived.Test.YtnmcgleanpdlmaaY9
import Derived.Test.YtnmcgleanpdlmaaY10
import Derived.Test.YtnmcgleanpdlmaaY11
import Derived.Test.YtnmcgleanpdlmaaY13
import Derived.Test.YtnmcgleanpdlmaaY14
namespace Go.Proofs.Ytnmcgleanpdlmaa
open Go.RowKit
theorem r3area_any (r : Bool) (a b : Int) (up : Bool) (h0 : 0 ≤ a) (h1 : a ≤ 20000) (h2 : 0 ≤ b) (h3 : b ≤ 20000) (w : World) :
    Calls Try.prog 68 #[.bool r, .int .i64 a, .int .i64 b, .bool up] w fun e w' => e = .returned (.int .i64 (areaM r a b up)) ∧ w = w' := by
  have hm := mul_le h0 h1 h2 h3
  have hp := Int.mul_nonneg h0 h2
  have hs := mul_le h0 h1 h0 h1
  have hq := Int.mul_nonneg h0 h0
  unfold areaM
  cases r
  · have e1 : IntKind.i64.wrap (a * b) = a * b := wrapI (by omega) (by omega)
    go_enter Try.func68, Try.ntmps68
    go_wp2
    go_ret
    exact ⟨by simp, rfl⟩
  · obtain ⟨A, hA⟩ : ∃ A, a * a = A := ⟨_, rfl⟩
    rw [hA] at hs hq ⊢
    have e0 : IntKind.i64.wrap (a * a) = A := by rw [hA]; exact wrapI (by omega) (by omega)
    cases up
    · have e1 : IntKind.i64.wrap (A * 333) = A * 333 := wrapI (by omega) (by omega)
      have e2 : (A * 333).tdiv 424 = A * 333 / 424 := Int.tdiv_eq_ediv_of_nonneg (by omega)
      have e3 : IntKind.i64.wrap (A * 333 / 424) = A * 333 / 424 := wrapI (by omega) (by omega)
      generalize A * 333 / 424 = X at *
      clear hA hs hq hm hp
      go_enter Try.func68, Try.ntmps68
      go_wp2
      go_ret
      exact ⟨by simp, rfl⟩
    · have e1 : IntKind.i64.wrap (A * 355) = A * 355 := wrapI (by omega) (by omega)
      have e4 : IntKind.i64.wrap (A * 355 + 451) = A * 355 + 451 := wrapI (by omega) (by omega)
      have e2 : (A * 355 + 451).tdiv 452 = (A * 355 + 451) / 452 := Int.tdiv_eq_ediv_of_nonneg (by omega)
      have e3 : IntKind.i64.wrap ((A * 355 + 451) / 452) = (A * 355 + 451) / 452 := wrapI (by omega) (by omega)
      generalize (A * 355 + 451) / 452 = X at *
      clear hA hs hq hm hp
      go_enter Try.func68, Try.ntmps68
      go_wp2
      go_ret
      exact ⟨by simp, rfl⟩
end Go.Proofs.Ytnmcgleanpdlmaa

namespace Go.Proofs.Ytnmcgleanpdlmaa
open Go.RowKit
theorem i64_info : ∃ i, Try.prog.info? 2 = some i ∧ i.zero = some (.int .i64 0) ∧ i.size = 1 ∧ i.bytes = 8 :=
  Go.info_parts (by kernel_rfl)
set_option maxRecDepth 100000 in
set_option maxHeartbeats 16000000 in
theorem r3of_row (a : Addr) (cap : Nat) (l : List Sec) (w : World) (h4 : ∀ i s, l[i]? = some s → s.I ∧ SecAt w (a.add (i * 6)) s) (hr : rightS l = true) (cR : ∀ w', B w w' → Calls Try.prog 64 #[.slice (some a) l.length cap] w' fun e w'' => e = .returned (.bool true) ∧ Q w' w'') :
    Calls Try.prog 39 #[.slice (some a) l.length cap] w fun e w' => ∃ p, e = .returned (.tuple #[p, .bool true]) ∧ Held (fun w => RTab w p (slAll l)) w.heap.size w'.heap.size w' ∧ B w w' := by
  obtain ⟨hl1, hl4, hok⟩ := right_all hr
  obtain ⟨i0, hi0, hz0, hz1, hz2⟩ := i64_info
  have hbnd := slAll_bnd hok
  have hnum := slAll_len l hok
  have hsum : hsumI l l.length ≤ 60000 := by
    unfold rightS at hr
    simp only [Bool.and_eq_true, decide_eq_true_eq] at hr
    exact hr.2
  have hlen : (slAll l).length ≤ 600 := by omega
  clear hr hnum hsum
  go_enter Try.func39, Try.ntmps39
  go_wp2_with fail
  refine (cR _ (B.refl w)).mono ?_
  rintro e W1 ⟨rfl, g1⟩
  replace g1 := g1.b
  clear cR
  go_wp2
  obtain ⟨tL, tH⟩ := table_start W1 w.heap.size 2 161 g1.below.size
  have gF := ((g1.alloc #[.int .i64 0] 2).alloc #[.int .i64 0] 2).alloc #[.slice (some ⟨W1.heap.size, 0, none⟩) 1 1, .slice (some ⟨W1.heap.size + 1, 0, none⟩) 1 1] 161
  generalize ((W1.alloc (.cells #[.int .i64 0] 2)).alloc (.cells #[.int .i64 0] 2)).alloc (.cells #[.slice (some ⟨W1.heap.size, 0, none⟩) 1 1, .slice (some ⟨W1.heap.size + 1, 0, none⟩) 1 1] 161) = WF at *
  obtain ⟨bt, hbt⟩ : ∃ bt, W1.heap.size + 1 + 1 = bt := ⟨_, rfl⟩
  rw [hbt] at tL tH
  try rw [hbt]
  have hLH : W1.heap.size ≠ W1.heap.size + 1 := by omega
  generalize W1.heap.size + 1 = gH0 at *
  generalize W1.heap.size = gL0 at *
  obtain ⟨BB, hBB⟩ : ∃ BB, w.heap.size = BB := ⟨_, rfl⟩
  rw [hBB] at tL tH
  clear g1 hbt
  have H4 := Lib.hid h4
  have HTL := Lib.hid tL
  have HTH := Lib.hid tH
  clear h4 tL tH
  go_loopw [5] (fun i wr => ∃ (k gL cL gH cH : Nat), k ≤ l.length ∧ i = .int .i64 k ∧ Half wr BB bt 0 2 gL cL (lowCells (slAll (l.take k))) ∧ Half wr BB bt 1 2 gH cH (highCells (slAll (l.take k))) ∧ gL ≠ gH ∧ B w wr) (fun i _ => l.length - (intOf i).toNat)
  case atStart => exact ⟨0, gL0, 1, gH0, 1, Nat.zero_le _, rfl, HTL.out, HTH.out, hLH, gF⟩
  case round =>
    clear HTL HTH
    obtain ⟨k, gL, cL, gH, cH, hk, rfl, tL, tH, hLH', gq⟩ := hrel
    by_cases hl : k < l.length
    · have hlB : decide (k < l.length) = true := decide_eq_true hl
      have hlI : (k : Int) < (l.length : Int) := by omega
      have hg := List.getElem?_eq_getElem hl
      obtain ⟨hI, hs⟩ := H4.out k _ hg
      have hsk := hok _ (List.getElem_mem hl)
      have hsplit : slAll (l.take (k + 1)) = slAll (l.take k) ++ slOf l[k] := by
        rw [List.take_add_one, hg, slAll_append]; simp [slAll]
      have hpre : (slAll (l.take (k + 1))).length ≤ 600 := by
        have e : slAll l = slAll (l.take (k + 1)) ++ slAll (l.drop (k + 1)) := by rw [← slAll_append, List.take_append_drop]
        rw [e, List.length_append] at hlen
        omega
      have hbk : ∀ x ∈ slAll (l.take (k + 1)), Bnd x := slAll_bnd (fun s hs => hok s (List.mem_of_mem_take hs))
      rw [hsplit] at hpre hbk
      generalize slAll (l.take k) = MK at *
      generalize l[k] = s at *
      obtain ⟨r, h, a0, b0, a1, b1⟩ := s
      obtain ⟨hh1, hh2⟩ := secOk_h _ hsk
      have hmod := secOk_mod hsk
      have hsl : (slOf ⟨r, h, a0, b0, a1, b1⟩).length = (h / 100).toNat := slOf_len _
      have hget : ∀ j : Nat, j < (h / 100).toNat → (slOf ⟨r, h, a0, b0, a1, b1⟩)[j]? = some (100 * lowA ⟨r, h, a0, b0, a1, b1⟩ (100 * (j : Int)), 100 * highA ⟨r, h, a0, b0, a1, b1⟩ (100 * (j : Int))) := fun j hj => by
        unfold slOf
        rw [List.getElem?_map, List.getElem?_range hj]
        rfl
      have hbnds := fun (t : Int) ht => slice_bounds hsk t ht
      have hsin := fun (t : Int) up => sideOf_in hsk t up
      have hlow : ∀ t : Int, lowA ⟨r, h, a0, b0, a1, b1⟩ t = areaM r (min (sideOf ⟨r, h, a0, b0, a1, b1⟩ t false).1 (sideOf ⟨r, h, a0, b0, a1, b1⟩ (t + 100) false).1) (min (sideOf ⟨r, h, a0, b0, a1, b1⟩ t false).2 (sideOf ⟨r, h, a0, b0, a1, b1⟩ (t + 100) false).2) false := fun _ => rfl
      have hhigh : ∀ t : Int, highA ⟨r, h, a0, b0, a1, b1⟩ t = areaM r (max (sideOf ⟨r, h, a0, b0, a1, b1⟩ t true).1 (sideOf ⟨r, h, a0, b0, a1, b1⟩ (t + 100) true).1) (max (sideOf ⟨r, h, a0, b0, a1, b1⟩ t true).2 (sideOf ⟨r, h, a0, b0, a1, b1⟩ (t + 100) true).2) true := fun _ => rfl
      generalize slOf ⟨r, h, a0, b0, a1, b1⟩ = SL at *
      simp only at hh1 hh2 hmod
      have HK1 := Lib.hid hsplit
      clear hsplit
      go_wp2
      have HL := Lib.hid tL
      have HH := Lib.hid tH
      have HOK := Lib.hid (And.intro hok hbnd)
      have HG := Lib.hid hg
      clear tL tH hok hbnd hg
      obtain ⟨wo, rfl⟩ : ∃ wo : World, wo = wr := ⟨_, rfl⟩
      go_loopw [6] (fun i wr => ∃ (j gL cL gH cH : Nat), j ≤ (h / 100).toNat ∧ i = .int .i64 (100 * (j : Int)) ∧ Half wr BB bt 0 2 gL cL (lowCells (MK ++ SL.take j)) ∧ Half wr BB bt 1 2 gH cH (highCells (MK ++ SL.take j)) ∧ gL ≠ gH ∧ B w wr) (fun i _ => (h / 100).toNat - ((intOf i) / 100).toNat)
      case atStart => exact ⟨0, gL, cL, gH, cH, Nat.zero_le _, rfl, by simpa using HL.out, by simpa using HH.out, hLH', gq⟩
      case round =>
        clear HL HH
        obtain ⟨j, gL, cL, gH, cH, hj, rfl, tL, tH, hLH', gq⟩ := hrel
        obtain ⟨f0, f1, f2, f3, f4, f5⟩ := hs.keepB gq
        simp only at f0 f1 f2 f3 f4 f5
        by_cases hjl : j < (h / 100).toNat
        · have hjB : decide (100 * (j : Int) < h) = true := decide_eq_true (by omega)
          have hgj := hget j hjl
          have hMM : MK ++ SL.take (j + 1) = (MK ++ SL.take j) ++ [(100 * lowA ⟨r, h, a0, b0, a1, b1⟩ (100 * (j : Int)), 100 * highA ⟨r, h, a0, b0, a1, b1⟩ (100 * (j : Int)))] := by
            rw [List.take_add_one, hgj]; simp
          have hMl : (MK ++ SL.take j).length ≤ 599 := by
            rw [List.length_append, List.length_take]
            rw [List.length_append] at hpre
            omega
          have hbM : ∀ x ∈ MK ++ SL.take j, Bnd x := fun x hx => hbk x (by
            rcases List.mem_append.1 hx with h | h
            · exact List.mem_append.2 (.inl h)
            · exact List.mem_append.2 (.inr (List.mem_of_mem_take h)))
          obtain ⟨hb1, hb2, hb3⟩ := table_bnd hbM (MK ++ SL.take j).length
          have HRel := Lib.hid hMM
          clear hMM hgj hbM
          obtain ⟨T, hT⟩ : ∃ T : Int, 100 * (j : Int) = T := ⟨_, rfl⟩
          obtain ⟨n, hn⟩ : ∃ n, (MK ++ SL.take j).length = n := ⟨_, rfl⟩
          have tLl := lowCells_len (MK ++ SL.take j)
          have tHl := highCells_len (MK ++ SL.take j)
          have gLn := lowCells_get (MK ++ SL.take j) n (by omega)
          have gHn := highCells_get (MK ++ SL.take j) n (by omega)
          have snL := lowCells_snoc (MK ++ SL.take j) (100 * lowA ⟨r, h, a0, b0, a1, b1⟩ T, 100 * highA ⟨r, h, a0, b0, a1, b1⟩ T)
          have snH := highCells_snoc (MK ++ SL.take j) (100 * lowA ⟨r, h, a0, b0, a1, b1⟩ T, 100 * highA ⟨r, h, a0, b0, a1, b1⟩ T)
          have snn : ∀ x, ((MK ++ SL.take j) ++ [x]).length = n + 1 := fun x => by rw [List.length_append, List.length_singleton, hn]
          rw [hn] at tLl tHl snL snH hMl hb1 hb2 hb3
          rw [hT]
          rw [hT] at hjB HRel
          generalize MK ++ SL.take j = M at *
          obtain ⟨LO, hLO⟩ : ∃ LO, lowT M n = LO := ⟨_, rfl⟩
          obtain ⟨HI, hHI⟩ : ∃ HI, highT M n = HI := ⟨_, rfl⟩
          rw [hLO] at gLn snL hb1 hb2
          rw [hHI] at gHn snH hb2 hb3
          have hT0 : 0 ≤ T := by omega
          have hT1 : T + 100 ≤ 60000 := by omega
          have iT : I64 T := by unfold I64; omega
          have iT' : I64 (T + 100) := by unfold I64; omega
          have eT : IntKind.i64.wrap (T + 100) = T + 100 := wrapI (by omega) (by omega)
          obtain ⟨hx1, hx2, hx3, hx4⟩ := hbnds T hT0
          obtain ⟨q1, q2, q3, q4⟩ := hsin T false
          obtain ⟨q5, q6, q7, q8⟩ := hsin (T + 100) false
          obtain ⟨v1, v2, v3, v4⟩ := hsin T true
          obtain ⟨v5, v6, v7, v8⟩ := hsin (T + 100) true
          have hlowT := hlow T
          have hhighT := hhigh T
          have s1 := fun w => r3side_any r h a0 b0 a1 b1 T false w hI iT
          have s2 := fun w => r3side_any r h a0 b0 a1 b1 (T + 100) false w hI iT'
          have s3 := fun w => r3side_any r h a0 b0 a1 b1 T true w hI iT
          have s4 := fun w => r3side_any r h a0 b0 a1 b1 (T + 100) true w hI iT'
          generalize lowA ⟨r, h, a0, b0, a1, b1⟩ T = XL at *
          generalize highA ⟨r, h, a0, b0, a1, b1⟩ T = XH at *
          generalize (sideOf ⟨r, h, a0, b0, a1, b1⟩ T false).1 = p1 at *
          generalize (sideOf ⟨r, h, a0, b0, a1, b1⟩ T false).2 = p2 at *
          generalize (sideOf ⟨r, h, a0, b0, a1, b1⟩ (T + 100) false).1 = p3 at *
          generalize (sideOf ⟨r, h, a0, b0, a1, b1⟩ (T + 100) false).2 = p4 at *
          generalize (sideOf ⟨r, h, a0, b0, a1, b1⟩ T true).1 = p5 at *
          generalize (sideOf ⟨r, h, a0, b0, a1, b1⟩ T true).2 = p6 at *
          generalize (sideOf ⟨r, h, a0, b0, a1, b1⟩ (T + 100) true).1 = p7 at *
          generalize (sideOf ⟨r, h, a0, b0, a1, b1⟩ (T + 100) true).2 = p8 at *
          obtain ⟨m1, e1⟩ : ∃ m, min p1 p3 = m := ⟨_, rfl⟩
          obtain ⟨m2, e2⟩ : ∃ m, min p2 p4 = m := ⟨_, rfl⟩
          obtain ⟨m3, e3⟩ : ∃ m, max p5 p7 = m := ⟨_, rfl⟩
          obtain ⟨m4, e4⟩ : ∃ m, max p6 p8 = m := ⟨_, rfl⟩
          rw [e1, e2] at hlowT
          rw [e3, e4] at hhighT
          have cA1 := fun w => r3area_any r m1 m2 false (by omega) (by omega) (by omega) (by omega) w
          have cA2 := fun w => r3area_any r m3 m4 true (by omega) (by omega) (by omega) (by omega) w
          rw [← hlowT] at cA1
          rw [← hhighT] at cA2
          obtain ⟨YL, eYL⟩ : ∃ Y, 100 * XL = Y := ⟨_, rfl⟩
          obtain ⟨YH, eYH⟩ : ∃ Y, 100 * XH = Y := ⟨_, rfl⟩
          obtain ⟨ZL, eZL⟩ : ∃ Z, LO + YL = Z := ⟨_, rfl⟩
          obtain ⟨ZH, eZH⟩ : ∃ Z, HI + YH = Z := ⟨_, rfl⟩
          have wYL : IntKind.i64.wrap YL = YL := wrapI (by omega) (by omega)
          have wYH : IntKind.i64.wrap YH = YH := wrapI (by omega) (by omega)
          have wZL : IntKind.i64.wrap ZL = ZL := wrapI (by omega) (by omega)
          have wZH : IntKind.i64.wrap ZH = ZH := wrapI (by omega) (by omega)
          simp only [eYL, eYH, eZL, eZH] at snL snH HRel
          have hcL := tL.cell
          rw [tLl] at hcL
          have hn600 : n ≤ 600 := by omega
          clear hbnds hsin hlow hhigh hget hsk hlowT hhighT hx1 hx2 hx3 hx4 hb1 hb2 hb3 q1 q2 q3 q4 q5 q6 q7 q8 v1 v2 v3 v4 v5 v6 v7 v8 hpre hbk hlen hMl
          go_wp2_with fail
          refine (s1 _).mono ?_
          rintro e wS ⟨rfl, qS⟩
          replace tL := tL.keepB qS.b
          replace tH := tH.keepB qS.b
          replace gq := gq.trans qS.b
          replace f0 := qS.keep f0
          replace f1 := qS.keep f1
          replace f2 := qS.keep f2
          replace f3 := qS.keep f3
          replace f4 := qS.keep f4
          replace f5 := qS.keep f5
          clear qS
          go_wp2_with fail
          refine (s2 _).mono ?_
          rintro e wS ⟨rfl, qS⟩
          replace tL := tL.keepB qS.b
          replace tH := tH.keepB qS.b
          replace gq := gq.trans qS.b
          replace f0 := qS.keep f0
          replace f1 := qS.keep f1
          replace f2 := qS.keep f2
          replace f3 := qS.keep f3
          replace f4 := qS.keep f4
          replace f5 := qS.keep f5
          clear qS
          have hcc := tL.cell
          rw [tLl] at hcc
          have hff := tL.fz
          have hlo : wS.cell? ⟨gL, n, none⟩ = some (.int .i64 LO) := by have := tL.own.cells rfl n _ gLn; rwa [add0] at this
          have hoA : (wS.drew.alloc (.cells #[.int .i64 ZL] 2)).ownsRow BB 2 1 (.slice (some ⟨gL, 0, none⟩) (n + 1) cL) (n + 1) (lowCells M) := by have := (tL.keepB ((B.refl wS).drew.alloc #[.int .i64 ZL] 2)).own; rwa [tLl] at this
          have hwB : BB ≤ wS.heap.size := by rw [← hBB]; exact gq.below.size
          have hbase : BB ≤ (wS.drew.alloc (.cells #[.int .i64 ZL] 2)).heap.size := by rw [alloc_size]; exact Nat.le_succ_of_le hwB
          have hblt : bt < (wS.drew.alloc (.cells #[.int .i64 ZL] 2)).heap.size := by rw [alloc_size]; exact Nat.lt_succ_of_lt tL.blt
          have hbne : some bt ≠ some gL := fun e => tL.ne (Option.some.inj e).symm
          have hrr := f0
          have hnn : (n : Int) < (n : Int) + 1 := by omega
          go_wp2_with fail
          refine wp_region_noPanic ?_
          refine wp_region_gate (S := fun w' => w'.cell? ⟨bt, 0, none⟩ = some (.slice (some ⟨gL, 0, none⟩) (n + 1) cL) ∧ w'.cell? ⟨gL, n, none⟩ = some (.int .i64 LO) ∧ w'.cell? (a.add (k * 6)) = some (.bool r) ∧ Q wS w') 27 [(0, 3), (1, 3), (2, 3), (3, 3), (4, 0), (5, 3), (6, 3), (7, 3), (8, 0), (9, 3), (10, 3), (11, 0), (12, 3), (13, 3), (14, 3), (15, 3), (16, 0), (17, 3), (18, 3), (19, 3), (20, 3), (21, 3), (22, 3), (23, 2), (24, 3), (25, 3), (26, 2), (27, 4), (28, 3), (29, 3), (30, 4)] [0, 0, 2, 4, 8, 0, 32, 64, 128, 0, 768, 1024, 0, 0, 12288, 16384, 32768, 0, 0, 393216, 0, 0, 3145728, 4784128, 8388608, 16779264, 33554432, 75497488, 268435455, 536870911, 805306367] [0, 0, 2, 4, 8, 0, 32, 64, 128, 0, 768, 1024, 0, 0, 12288, 16384, 32768, 0, 0, 393216, 0, 0, 3145728, 4784128, 8388608, 16779264, 33554432, 67108880, 1, 268435456, 671088640] [0, 0, 0, 0, 2013265936, 0, 0, 0, 2113932544, 0, 0, 2113931264, 0, 0, 0, 0, 2139160576, 0, 0, 0, 0, 0, 0, 0, 0, 0, 0, 0, 0, 0, 0] (by kernel_rfl) (by kernel_rfl) (fun _ _ _ _ _ h => h) ?_ (fun hH => ?_)
          · exact ⟨(Q.refl wS).drew.keep hcc, (Q.refl wS).drew.keep hlo, (Q.refl wS).drew.keep hrr, (Q.refl wS).drew⟩
          refine wpSeqG_free (d := 59) (v := ?_) rfl rfl (by kernel_rfl) (fun w => ?_) ?_
          rotate_left
          · go_simp <;> with_reducible rfl
          dsimp only [List.set_cons_zero, List.set_cons_succ]
          refine wpSeqG_free (d := 60) (v := ?_) rfl rfl (by kernel_rfl) (fun w => ?_) ?_
          rotate_left
          · go_simp <;> with_reducible rfl
          dsimp only [List.set_cons_zero, List.set_cons_succ]
          refine wpSeqG_free (d := 61) (v := ?_) rfl rfl (by kernel_rfl) (fun w => ?_) ?_
          rotate_left
          · go_simp <;> with_reducible rfl
          dsimp only [List.set_cons_zero, List.set_cons_succ]
          refine wpSeqG_free (d := 62) (v := ?_) rfl rfl (by kernel_rfl) (fun w => ?_) ?_
          rotate_left
          · go_simp <;> with_reducible rfl
          dsimp only [List.set_cons_zero, List.set_cons_succ]
          refine wpSeqG_take (d := 63) (v := ?_) rfl rfl (by kernel_rfl) (fun w hS => ?_) ?_
          rotate_left
          · go_simp <;> with_reducible rfl
          dsimp only [List.set_cons_zero, List.set_cons_succ]
          refine wpSeqG_free (d := 64) (v := ?_) rfl rfl (by kernel_rfl) (fun w => ?_) ?_
          rotate_left
          · go_simp <;> with_reducible rfl
          dsimp only [List.set_cons_zero, List.set_cons_succ]
          refine wpSeqG_free (d := 65) (v := ?_) rfl rfl (by kernel_rfl) (fun w => ?_) ?_
          rotate_left
          · go_simp <;> with_reducible rfl
          dsimp only [List.set_cons_zero, List.set_cons_succ]
          refine wpSeqG_free (d := 66) (v := ?_) rfl rfl (by kernel_rfl) (fun w => ?_) ?_
          rotate_left
          · go_simp <;> with_reducible rfl
          dsimp only [List.set_cons_zero, List.set_cons_succ]
          refine wpSeqG_take (d := 67) (v := ?_) rfl rfl (by kernel_rfl) (fun w hS => ?_) ?_
          rotate_left
          · go_simp <;> with_reducible rfl
          dsimp only [List.set_cons_zero, List.set_cons_succ]
          refine wpSeqG_free (d := 68) (v := ?_) rfl rfl (by kernel_rfl) (fun w => ?_) ?_
          rotate_left
          · go_simp <;> with_reducible rfl
          dsimp only [List.set_cons_zero, List.set_cons_succ]
          refine wpSeqG_free (d := 69) (v := ?_) rfl rfl (by kernel_rfl) (fun w => ?_) ?_
          rotate_left
          · go_simp <;> with_reducible rfl
          dsimp only [List.set_cons_zero, List.set_cons_succ]
          refine wpSeqG_take (d := 70) (v := ?_) rfl rfl (by kernel_rfl) (fun w hS => ?_) ?_
          rotate_left
          · go_simp <;> with_reducible rfl
          dsimp only [List.set_cons_zero, List.set_cons_succ]
          refine wpSeqG_free (d := 71) (v := ?_) rfl rfl (by kernel_rfl) (fun w => ?_) ?_
          rotate_left
          · go_simp <;> with_reducible rfl
          dsimp only [List.set_cons_zero, List.set_cons_succ]
          refine wpSeqG_free (d := 72) (v := ?_) rfl rfl (by kernel_rfl) (fun w => ?_) ?_
          rotate_left
          · go_simp <;> with_reducible rfl
          dsimp only [List.set_cons_zero, List.set_cons_succ]
          refine wpSeqG_free (d := 73) (v := ?_) rfl rfl (by kernel_rfl) (fun w => ?_) ?_
          rotate_left
          · go_simp <;> with_reducible rfl
          dsimp only [List.set_cons_zero, List.set_cons_succ]
          refine wpSeqG_free (d := 74) (v := ?_) rfl rfl (by kernel_rfl) (fun w => ?_) ?_
          rotate_left
          · go_simp <;> with_reducible rfl
          dsimp only [List.set_cons_zero, List.set_cons_succ]
          refine wpSeqG_take (d := 75) (v := ?_) rfl rfl (by kernel_rfl) (fun w hS => ?_) ?_
          rotate_left
          · go_simp <;> with_reducible rfl
          dsimp only [List.set_cons_zero, List.set_cons_succ]
          refine wpSeqG_free (d := 76) (v := ?_) rfl rfl (by kernel_rfl) (fun w => ?_) ?_
          rotate_left
          · go_simp <;> with_reducible rfl
          dsimp only [List.set_cons_zero, List.set_cons_succ]
          refine wpSeqG_free (d := 77) (v := ?_) rfl rfl (by kernel_rfl) (fun w => ?_) ?_
          rotate_left
          · go_simp <;> with_reducible rfl
          dsimp only [List.set_cons_zero, List.set_cons_succ]
          refine wpSeqG_free (d := 78) (v := ?_) rfl rfl (by kernel_rfl) (fun w => ?_) ?_
          rotate_left
          · go_simp <;> with_reducible rfl
          dsimp only [List.set_cons_zero, List.set_cons_succ]
          refine wpSeqG_free (d := 79) (v := ?_) rfl rfl (by kernel_rfl) (fun w => ?_) ?_
          rotate_left
          · go_simp <;> with_reducible rfl
          dsimp only [List.set_cons_zero, List.set_cons_succ]
          refine wpSeqG_free (d := 80) (v := ?_) rfl rfl (by kernel_rfl) (fun w => ?_) ?_
          rotate_left
          · go_simp <;> with_reducible rfl
          dsimp only [List.set_cons_zero, List.set_cons_succ]
          refine wpSeqG_free (d := 81) (v := ?_) rfl rfl (by kernel_rfl) (fun w => ?_) ?_
          rotate_left
          · go_simp <;> with_reducible rfl
          dsimp only [List.set_cons_zero, List.set_cons_succ]
          refine wpSeqG_call rfl (by kernel_rfl) (fun K hK => ?_)
          go_simp
          (with_reducible refine (cA1 _).mono ?_)
          rintro e w' ⟨rfl, rfl⟩
          refine hK.out _ _ hH (fun hH => ?_)
          clear hK
          refine wpSeqG_free (d := 83) (v := ?_) rfl rfl (by kernel_rfl) (fun w => ?_) ?_
          rotate_left
          · go_simp <;> with_reducible rfl
          dsimp only [List.set_cons_zero, List.set_cons_succ]
          refine wpSeqG_free (d := 84) (v := ?_) rfl rfl (by kernel_rfl) (fun w => ?_) ?_
          rotate_left
          · go_simp <;> with_reducible rfl
          dsimp only [List.set_cons_zero, List.set_cons_succ]
          refine wpSeqG_call rfl (by kernel_rfl) (fun K hK => ?_)
          go_simp
          refine hK.out _ _ ?_ (fun hH => ?_)
          · exact ⟨((Q.refl wS).drew.alloc _ _).keep hcc, ((Q.refl wS).drew.alloc _ _).keep hlo, ((Q.refl wS).drew.alloc _ _).keep hrr, (Q.refl wS).drew.alloc _ _⟩
          clear hK
          refine wpSeqG_gate rfl (by kernel_rfl) (fun K hK => ?_)
          refine wp_append_lies _ _ _ 43 rfl BB 2 i0 (.int .i64 0) 1 8 (by kernel_rfl) hi0 hz0 hz1 hz2 rfl (by omega) _ _ _ rfl hoA ⟨wS.heap.size, 0, none⟩ 1 1 [.int .i64 ZL] rfl rfl (news_plain rfl) (by intro u hu; rw [List.mem_singleton.1 hu]; rfl) (by omega) (by unfold maxLen; omega) (by omega) hbase _ rfl ?_
          intro gN cN wN hownN hgrowN hatN hltN
          have y0 : wN.cell? ⟨bt, 0, none⟩ = some (.slice (some ⟨gL, 0, none⟩) (n + 1) cL) := (World.cell?_of_block (a := ⟨bt, 0, none⟩) (hgrowN.block bt hblt hbne)).trans (((Q.refl wS).drew.alloc _ _).keep hcc)
          have y1 : wN.frozen? ⟨bt, 0, none⟩ = false := (World.frozen?_of_block (a := ⟨bt, 0, none⟩) (hgrowN.block bt hblt hbne)).trans ((((Q.refl wS).drew.alloc _ _).marks _).trans hff)
          try simp only [Act.put, List.setIfInBounds_toArray, List.set_cons_zero, List.set_cons_succ]
          refine hK.out _ _ ?_
          clear hK
          refine wpSeqG_free (d := 87) (v := ?_) rfl rfl (by kernel_rfl) (fun w => ?_) ?_
          rotate_left
          · go_simp <;> with_reducible rfl
          dsimp only [List.set_cons_zero, List.set_cons_succ]
          refine wpSeqG_free (d := 88) (v := ?_) rfl rfl (by kernel_rfl) (fun w => ?_) ?_
          rotate_left
          · go_simp <;> with_reducible rfl
          dsimp only [List.set_cons_zero, List.set_cons_succ]
          refine wpSeqG_gate rfl (by kernel_rfl) (fun K hK => ?_)
          go_simp
          refine hK.out _ _ ?_
          clear hK
          refine wpSeqG_done ?_
          refine NoPanic.normal ?_
          have hel : (lowCells (M ++ [(YL, YH)])).length = n + 1 + 1 := by rw [lowCells_len, snn]
          have hoB : wN.ownsRow BB 2 1 (.slice (some ⟨gN, 0, none⟩) (lowCells (M ++ [(YL, YH)])).length cN) (lowCells (M ++ [(YL, YH)])).length (lowCells (M ++ [(YL, YH)])) := by rw [hel, snL]; exact hownN
          have hgb : gN ≠ bt := by
            rcases hatN with e | e
            · have e' : gL = gN := Option.some.inj e
              rw [← e']; exact tL.ne
            · rw [e]; exact Nat.ne_of_gt hblt
          have hg2 : gN ≠ gH := by
            rcases hatN with e | e
            · have e' : gL = gN := Option.some.inj e
              rw [← e']; exact hLH'
            · have hz := alloc_size wS (.cells #[.int .i64 ZL] 2)
              have hy := tH.glt.2
              rw [e]
              intro hq
              have hq' : (wS.alloc (.cells #[.int .i64 ZL] 2)).heap.size = gH := hq
              omega
          have tX := Half.put (off := 0) hoB y0 y1 hgb tL.lo
          rw [hel] at tX
          have tY := ((tH.keepB ((B.refl wS).drew.alloc #[.int .i64 ZL] 2)).grown hgrowN (Ne.symm hLH') (Ne.symm tL.ne)).other 0 (by omega) (.slice (some ⟨gN, 0, none⟩) (n + 1 + 1) cN)
          have gN1 := ((gq.drew.alloc #[.int .i64 ZL] 2).grownBy hgrowN (fun b hb => by rw [hBB, ← Option.some.inj hb]; exact tL.glt.1)).setCell (p := ⟨bt, 0, none⟩) (by rw [hBB]; exact tL.lo) (.slice (some ⟨gN, 0, none⟩) (n + 1 + 1) cN)
          clear f0 f1 f2 f3 f4 f5
          obtain ⟨f0, f1, f2, f3, f4, f5⟩ := hs.keepB gN1
          simp only at f0 f1 f2 f3 f4 f5
          generalize wN.setCell ⟨bt, 0, none⟩ (.slice (some ⟨gN, 0, none⟩) (n + 1 + 1) cN) = wX at *
          clear hnn hownN hgrowN hatN hltN y0 y1 hoA hbase hblt hbne hcc hff hlo hrr hwB hoB hel hgb
          have tL := tX
          have tH := tY
          have gq := gN1
          have hLH' := hg2
          clear tX tY gN1 hg2
          obtain ⟨gN0, eg⟩ : ∃ g, g = gN := ⟨_, rfl⟩
          obtain ⟨cN0, ec⟩ : ∃ g, g = cN := ⟨_, rfl⟩
          subst eg ec
          go_wp2_with fail
          refine (s3 _).mono ?_
          rintro e wS ⟨rfl, qS⟩
          replace tL := tL.keepB qS.b
          replace tH := tH.keepB qS.b
          replace gq := gq.trans qS.b
          replace f0 := qS.keep f0
          replace f1 := qS.keep f1
          replace f2 := qS.keep f2
          replace f3 := qS.keep f3
          replace f4 := qS.keep f4
          replace f5 := qS.keep f5
          clear qS
          go_wp2_with fail
          refine (s4 _).mono ?_
          rintro e wS ⟨rfl, qS⟩
          replace tL := tL.keepB qS.b
          replace tH := tH.keepB qS.b
          replace gq := gq.trans qS.b
          replace f0 := qS.keep f0
          replace f1 := qS.keep f1
          replace f2 := qS.keep f2
          replace f3 := qS.keep f3
          replace f4 := qS.keep f4
          replace f5 := qS.keep f5
          clear qS
          have hcc := tH.cell
          rw [tHl] at hcc
          have hff := tH.fz
          have hlo : wS.cell? ⟨gH, n, none⟩ = some (.int .i64 HI) := by have := tH.own.cells rfl n _ gHn; rwa [add0] at this
          have hoA : (wS.drew.alloc (.cells #[.int .i64 ZH] 2)).ownsRow BB 2 1 (.slice (some ⟨gH, 0, none⟩) (n + 1) cH) (n + 1) (highCells M) := by have := (tH.keepB ((B.refl wS).drew.alloc #[.int .i64 ZH] 2)).own; rwa [tHl] at this
          have hwB : BB ≤ wS.heap.size := by rw [← hBB]; exact gq.below.size
          have hbase : BB ≤ (wS.drew.alloc (.cells #[.int .i64 ZH] 2)).heap.size := by rw [alloc_size]; exact Nat.le_succ_of_le hwB
          have hblt : bt < (wS.drew.alloc (.cells #[.int .i64 ZH] 2)).heap.size := by rw [alloc_size]; exact Nat.lt_succ_of_lt tH.blt
          have hbne : some bt ≠ some gH := fun e => tH.ne (Option.some.inj e).symm
          have hrr := f0
          have hnn : (n : Int) < (n : Int) + 1 := by omega
          go_wp2_with fail
          refine wp_region_noPanic ?_
          refine wp_region_gate (S := fun w' => w'.cell? ⟨bt, 1, none⟩ = some (.slice (some ⟨gH, 0, none⟩) (n + 1) cH) ∧ w'.cell? ⟨gH, n, none⟩ = some (.int .i64 HI) ∧ w'.cell? (a.add (k * 6)) = some (.bool r) ∧ Q wS w') 27 [(0, 3), (1, 3), (2, 3), (3, 3), (4, 0), (5, 3), (6, 3), (7, 3), (8, 0), (9, 3), (10, 3), (11, 0), (12, 3), (13, 3), (14, 3), (15, 3), (16, 0), (17, 3), (18, 3), (19, 3), (20, 3), (21, 3), (22, 3), (23, 2), (24, 3), (25, 3), (26, 2), (27, 4), (28, 3), (29, 3), (30, 4)] [0, 0, 2, 4, 8, 0, 32, 64, 128, 0, 768, 1024, 0, 0, 12288, 16384, 32768, 0, 0, 393216, 0, 0, 3145728, 4784128, 8388608, 16779264, 33554432, 75497488, 268435455, 536870911, 805306367] [0, 0, 2, 4, 8, 0, 32, 64, 128, 0, 768, 1024, 0, 0, 12288, 16384, 32768, 0, 0, 393216, 0, 0, 3145728, 4784128, 8388608, 16779264, 33554432, 67108880, 1, 268435456, 671088640] [0, 0, 0, 0, 2013265936, 0, 0, 0, 2113932544, 0, 0, 2113931264, 0, 0, 0, 0, 2139160576, 0, 0, 0, 0, 0, 0, 0, 0, 0, 0, 0, 0, 0, 0] (by kernel_rfl) (by kernel_rfl) (fun _ _ _ _ _ h => h) ?_ (fun hH => ?_)
          · exact ⟨(Q.refl wS).drew.keep hcc, (Q.refl wS).drew.keep hlo, (Q.refl wS).drew.keep hrr, (Q.refl wS).drew⟩
          refine wpSeqG_free (d := 108) (v := ?_) rfl rfl (by kernel_rfl) (fun w => ?_) ?_
          rotate_left
          · go_simp <;> with_reducible rfl
          dsimp only [List.set_cons_zero, List.set_cons_succ]
          refine wpSeqG_free (d := 109) (v := ?_) rfl rfl (by kernel_rfl) (fun w => ?_) ?_
          rotate_left
          · go_simp <;> with_reducible rfl
          dsimp only [List.set_cons_zero, List.set_cons_succ]
          refine wpSeqG_free (d := 110) (v := ?_) rfl rfl (by kernel_rfl) (fun w => ?_) ?_
          rotate_left
          · go_simp <;> with_reducible rfl
          dsimp only [List.set_cons_zero, List.set_cons_succ]
          refine wpSeqG_free (d := 111) (v := ?_) rfl rfl (by kernel_rfl) (fun w => ?_) ?_
          rotate_left
          · go_simp <;> with_reducible rfl
          dsimp only [List.set_cons_zero, List.set_cons_succ]
          refine wpSeqG_take (d := 112) (v := ?_) rfl rfl (by kernel_rfl) (fun w hS => ?_) ?_
          rotate_left
          · go_simp <;> with_reducible rfl
          dsimp only [List.set_cons_zero, List.set_cons_succ]
          refine wpSeqG_free (d := 113) (v := ?_) rfl rfl (by kernel_rfl) (fun w => ?_) ?_
          rotate_left
          · go_simp <;> with_reducible rfl
          dsimp only [List.set_cons_zero, List.set_cons_succ]
          refine wpSeqG_free (d := 114) (v := ?_) rfl rfl (by kernel_rfl) (fun w => ?_) ?_
          rotate_left
          · go_simp <;> with_reducible rfl
          dsimp only [List.set_cons_zero, List.set_cons_succ]
          refine wpSeqG_free (d := 115) (v := ?_) rfl rfl (by kernel_rfl) (fun w => ?_) ?_
          rotate_left
          · go_simp <;> with_reducible rfl
          dsimp only [List.set_cons_zero, List.set_cons_succ]
          refine wpSeqG_take (d := 116) (v := ?_) rfl rfl (by kernel_rfl) (fun w hS => ?_) ?_
          rotate_left
          · go_simp <;> with_reducible rfl
          dsimp only [List.set_cons_zero, List.set_cons_succ]
          refine wpSeqG_free (d := 117) (v := ?_) rfl rfl (by kernel_rfl) (fun w => ?_) ?_
          rotate_left
          · go_simp <;> with_reducible rfl
          dsimp only [List.set_cons_zero, List.set_cons_succ]
          refine wpSeqG_free (d := 118) (v := ?_) rfl rfl (by kernel_rfl) (fun w => ?_) ?_
          rotate_left
          · go_simp <;> with_reducible rfl
          dsimp only [List.set_cons_zero, List.set_cons_succ]
          refine wpSeqG_take (d := 119) (v := ?_) rfl rfl (by kernel_rfl) (fun w hS => ?_) ?_
          rotate_left
          · go_simp <;> with_reducible rfl
          dsimp only [List.set_cons_zero, List.set_cons_succ]
          refine wpSeqG_free (d := 120) (v := ?_) rfl rfl (by kernel_rfl) (fun w => ?_) ?_
          rotate_left
          · go_simp <;> with_reducible rfl
          dsimp only [List.set_cons_zero, List.set_cons_succ]
          refine wpSeqG_free (d := 121) (v := ?_) rfl rfl (by kernel_rfl) (fun w => ?_) ?_
          rotate_left
          · go_simp <;> with_reducible rfl
          dsimp only [List.set_cons_zero, List.set_cons_succ]
          refine wpSeqG_free (d := 122) (v := ?_) rfl rfl (by kernel_rfl) (fun w => ?_) ?_
          rotate_left
          · go_simp <;> with_reducible rfl
          dsimp only [List.set_cons_zero, List.set_cons_succ]
          refine wpSeqG_free (d := 123) (v := ?_) rfl rfl (by kernel_rfl) (fun w => ?_) ?_
          rotate_left
          · go_simp <;> with_reducible rfl
          dsimp only [List.set_cons_zero, List.set_cons_succ]
          refine wpSeqG_take (d := 124) (v := ?_) rfl rfl (by kernel_rfl) (fun w hS => ?_) ?_
          rotate_left
          · go_simp <;> with_reducible rfl
          dsimp only [List.set_cons_zero, List.set_cons_succ]
          refine wpSeqG_free (d := 125) (v := ?_) rfl rfl (by kernel_rfl) (fun w => ?_) ?_
          rotate_left
          · go_simp <;> with_reducible rfl
          dsimp only [List.set_cons_zero, List.set_cons_succ]
          refine wpSeqG_free (d := 126) (v := ?_) rfl rfl (by kernel_rfl) (fun w => ?_) ?_
          rotate_left
          · go_simp <;> with_reducible rfl
          dsimp only [List.set_cons_zero, List.set_cons_succ]
          refine wpSeqG_free (d := 127) (v := ?_) rfl rfl (by kernel_rfl) (fun w => ?_) ?_
          rotate_left
          · go_simp <;> with_reducible rfl
          dsimp only [List.set_cons_zero, List.set_cons_succ]
          refine wpSeqG_free (d := 128) (v := ?_) rfl rfl (by kernel_rfl) (fun w => ?_) ?_
          rotate_left
          · go_simp <;> with_reducible rfl
          dsimp only [List.set_cons_zero, List.set_cons_succ]
          refine wpSeqG_free (d := 129) (v := ?_) rfl rfl (by kernel_rfl) (fun w => ?_) ?_
          rotate_left
          · go_simp <;> with_reducible rfl
          dsimp only [List.set_cons_zero, List.set_cons_succ]
          refine wpSeqG_free (d := 130) (v := ?_) rfl rfl (by kernel_rfl) (fun w => ?_) ?_
          rotate_left
          · go_simp <;> with_reducible rfl
          dsimp only [List.set_cons_zero, List.set_cons_succ]
          refine wpSeqG_call rfl (by kernel_rfl) (fun K hK => ?_)
          go_simp
          (with_reducible refine (cA2 _).mono ?_)
          rintro e w' ⟨rfl, rfl⟩
          refine hK.out _ _ hH (fun hH => ?_)
          clear hK
          refine wpSeqG_free (d := 132) (v := ?_) rfl rfl (by kernel_rfl) (fun w => ?_) ?_
          rotate_left
          · go_simp <;> with_reducible rfl
          dsimp only [List.set_cons_zero, List.set_cons_succ]
          refine wpSeqG_free (d := 133) (v := ?_) rfl rfl (by kernel_rfl) (fun w => ?_) ?_
          rotate_left
          · go_simp <;> with_reducible rfl
          dsimp only [List.set_cons_zero, List.set_cons_succ]
          refine wpSeqG_call rfl (by kernel_rfl) (fun K hK => ?_)
          go_simp
          refine hK.out _ _ ?_ (fun hH => ?_)
          · exact ⟨((Q.refl wS).drew.alloc _ _).keep hcc, ((Q.refl wS).drew.alloc _ _).keep hlo, ((Q.refl wS).drew.alloc _ _).keep hrr, (Q.refl wS).drew.alloc _ _⟩
          clear hK
          refine wpSeqG_gate rfl (by kernel_rfl) (fun K hK => ?_)
          refine wp_append_lies _ _ _ 43 rfl BB 2 i0 (.int .i64 0) 1 8 (by kernel_rfl) hi0 hz0 hz1 hz2 rfl (by omega) _ _ _ rfl hoA ⟨wS.heap.size, 0, none⟩ 1 1 [.int .i64 ZH] rfl rfl (news_plain rfl) (by intro u hu; rw [List.mem_singleton.1 hu]; rfl) (by omega) (by unfold maxLen; omega) (by omega) hbase _ rfl ?_
          intro gN cN wN hownN hgrowN hatN hltN
          have y0 : wN.cell? ⟨bt, 1, none⟩ = some (.slice (some ⟨gH, 0, none⟩) (n + 1) cH) := (World.cell?_of_block (a := ⟨bt, 1, none⟩) (hgrowN.block bt hblt hbne)).trans (((Q.refl wS).drew.alloc _ _).keep hcc)
          have y1 : wN.frozen? ⟨bt, 1, none⟩ = false := (World.frozen?_of_block (a := ⟨bt, 1, none⟩) (hgrowN.block bt hblt hbne)).trans ((((Q.refl wS).drew.alloc _ _).marks _).trans hff)
          try simp only [Act.put, List.setIfInBounds_toArray, List.set_cons_zero, List.set_cons_succ]
          refine hK.out _ _ ?_
          clear hK
          refine wpSeqG_free (d := 136) (v := ?_) rfl rfl (by kernel_rfl) (fun w => ?_) ?_
          rotate_left
          · go_simp <;> with_reducible rfl
          dsimp only [List.set_cons_zero, List.set_cons_succ]
          refine wpSeqG_free (d := 137) (v := ?_) rfl rfl (by kernel_rfl) (fun w => ?_) ?_
          rotate_left
          · go_simp <;> with_reducible rfl
          dsimp only [List.set_cons_zero, List.set_cons_succ]
          refine wpSeqG_gate rfl (by kernel_rfl) (fun K hK => ?_)
          go_simp
          refine hK.out _ _ ?_
          clear hK
          refine wpSeqG_done ?_
          refine NoPanic.normal ?_
          have hel : (highCells (M ++ [(YL, YH)])).length = n + 1 + 1 := by rw [highCells_len, snn]
          have hoB : wN.ownsRow BB 2 1 (.slice (some ⟨gN, 0, none⟩) (highCells (M ++ [(YL, YH)])).length cN) (highCells (M ++ [(YL, YH)])).length (highCells (M ++ [(YL, YH)])) := by rw [hel, snH]; exact hownN
          have hgb : gN ≠ bt := by
            rcases hatN with e | e
            · have e' : gH = gN := Option.some.inj e
              rw [← e']; exact tH.ne
            · rw [e]; exact Nat.ne_of_gt hblt
          have hg2 : gN ≠ gN0 := by
            rcases hatN with e | e
            · have e' : gH = gN := Option.some.inj e
              rw [← e']; exact Ne.symm hLH'
            · have hz := alloc_size wS (.cells #[.int .i64 ZH] 2)
              have hy := tL.glt.2
              rw [e]
              intro hq
              have hq' : (wS.alloc (.cells #[.int .i64 ZH] 2)).heap.size = gN0 := hq
              omega
          have tX := Half.put (off := 1) hoB y0 y1 hgb tH.lo
          rw [hel] at tX
          have tY := ((tL.keepB ((B.refl wS).drew.alloc #[.int .i64 ZH] 2)).grown hgrowN (hLH') (Ne.symm tH.ne)).other 1 (by omega) (.slice (some ⟨gN, 0, none⟩) (n + 1 + 1) cN)
          have gN1 := ((gq.drew.alloc #[.int .i64 ZH] 2).grownBy hgrowN (fun b hb => by rw [hBB, ← Option.some.inj hb]; exact tH.glt.1)).setCell (p := ⟨bt, 1, none⟩) (by rw [hBB]; exact tH.lo) (.slice (some ⟨gN, 0, none⟩) (n + 1 + 1) cN)
          clear f0 f1 f2 f3 f4 f5
          obtain ⟨f0, f1, f2, f3, f4, f5⟩ := hs.keepB gN1
          simp only at f0 f1 f2 f3 f4 f5
          generalize wN.setCell ⟨bt, 1, none⟩ (.slice (some ⟨gN, 0, none⟩) (n + 1 + 1) cN) = wX at *
          clear hnn hownN hgrowN hatN hltN y0 y1 hoA hbase hblt hbne hcc hff hlo hrr hwB hoB hel hgb
          have HTL := Lib.hid tY
          have HTH := Lib.hid tX
          clear tX tY tL tH f0 f1 f2 f3 f4 f5 snL snH gLn gHn tLl tHl hcL cA1 cA2 s1 s2 s3 s4
          go_wp2
          go_roundw
          case rel => exact ⟨j + 1, gN0, cN0, gN, cN, by omega, by go_num, by rw [HRel.out]; exact HTL.out, by rw [HRel.out]; exact HTH.out, Ne.symm hg2, gN1⟩
          case measure => simp [intOf]; omega
        · have hjB : decide (100 * (j : Int) < h) = false := decide_eq_false (by omega)
          obtain rfl : j = (h / 100).toNat := by omega
          rw [← hsl, List.take_length] at tL tH
          have HL := Lib.hid tL
          have HH := Lib.hid tH
          clear tL tH
          go_wp2
          go_roundw
          case rel => exact ⟨k + 1, gL, cL, gH, cH, by omega, by go_num, by rw [HK1.out]; exact HL.out, by rw [HK1.out]; exact HH.out, hLH', gq⟩
          case measure => simp [intOf]; omega
    · have hlB : decide (k < l.length) = false := decide_eq_false hl
      obtain rfl : k = l.length := by omega
      rw [List.take_length] at tL tH
      have R := rtab_held tL tH
      rw [← hBB] at R
      have HR := Lib.hid R
      clear R tL tH hok hbnd H4
      go_wp2
      go_ret2
      exact ⟨_, rfl, HR.out, gq⟩
end Go.Proofs.Ytnmcgleanpdlmaa

namespace Go.Proofs.Ytnmcgleanpdlmaa
open Go.RowKit
/-- A table is answered of a shape that may be, none of another one. -/
def OfRes (T : World → Value → List (Int × Int) → Prop) (l : List Sec) (yes no : Value → Value) (w : World) (e : Ending) (w' : World) : Prop :=
  (rightS l = true ∧ ∃ p, e = .returned (yes p) ∧ T w' p (slAll l) ∧ B w w') ∨ (rightS l = false ∧ e = .returned (no (.pointer none)) ∧ B w w')
theorem r3of_held (v : Value) (l : List Sec) (w : World) (hv : IsSecs w v l) :
    Calls Try.prog 39 #[v] w (OfRes (fun w' p L => Held (fun w => RTab w p L) w.heap.size w'.heap.size w') l (fun p => .tuple #[p, .bool true]) (fun p => .tuple #[p, .bool false]) w) := by
  by_cases hr : rightS l = true
  · rcases hv with ⟨rfl, rfl⟩ | ⟨a, cap, rfl, h2, h3, h4⟩
    · exact absurd hr (by decide)
    · have cR : ∀ w', B w w' → Calls Try.prog 64 #[.slice (some a) l.length cap] w' fun e w'' => e = .returned (.bool true) ∧ Q w' w'' := fun w' q => by
        have := r3right_any (.slice (some a) l.length cap) l w' (.inr ⟨a, cap, rfl, h2, h3, fun i s hs => ⟨(h4 i s hs).1, (h4 i s hs).2.keepB q⟩⟩)
        rwa [hr] at this
      exact (r3of_row a cap l w h4 hr cR).mono fun e w' ⟨p, h1, h2, h3⟩ => .inl ⟨hr, p, h1, h2, h3⟩
  · have hr' : rightS l = false := by simpa using hr
    have c := fun w hv => r3right_any v l w hv
    rw [hr'] at c
    have HV := Lib.hid hv
    have HR := Lib.hid hr'
    clear hv hr hr'
    go_enter Try.func39, Try.ntmps39
    go_wp2_with fail
    refine (c _ HV.out).mono ?_
    rintro e W1 ⟨rfl, g1⟩
    go_wp2
    go_ret2
    exact .inr ⟨HR.out, rfl, g1.b⟩
/-- What the laws ask of a table's bounds. -/
structure TBnd (L : List (Int × Int)) : Prop where
  b : ∀ x ∈ L, Bnd x
  n : L.length ≤ 600
theorem TBnd.at {L : List (Int × Int)} (h : TBnd L) (k : Nat) (hk : k ≤ L.length) : 0 ≤ lowT L k ∧ lowT L k ≤ highT L k ∧ highT L k ≤ 24000000000000 := by
  obtain ⟨h1, h2, h3⟩ := table_bnd h.b k
  have := h.n
  refine ⟨h1, h2, ?_⟩
  have : (k : Int) ≤ 600 := by omega
  omega
end Go.Proofs.Ytnmcgleanpdlmaa

namespace Go.Proofs.Ytnmcgleanpdlmaa
open Go.RowKit
set_option linter.unusedVariables false
/-- Tables in a row that the call owns: one for each of the first i. -/
structure RbL (L : List Rec) (k0 b : Nat) (w : World) (sv : Value) (ps : List Value) (i : Nat) : Prop where
  row : w.ownsRow k0 126 1 sv i ps
  tab : ∀ (j : Nat) r, j < i → L[j]? = some r → ∃ p lo hi, ps[j]? = some (.pointer (some ⟨p, 0, none⟩)) ∧ Held (fun w => RTab w (.pointer (some ⟨p, 0, none⟩)) (slAll r.l)) lo hi w ∧ b < lo ∧ ∀ g, sv.ownBlock = some g → g < lo ∨ hi ≤ g
theorem RbL.start (L : List Rec) (k0 b : Nat) (w : World) : RbL L k0 b w (.slice none 0 0) [] 0 := ⟨World.ownsRow_nil _ _ _ _, fun j r h => by omega⟩
theorem RbL.keepB {L : List Rec} {k0 b i : Nat} {w w' : World} {sv : Value} {ps : List Value} (h : RbL L k0 b w sv ps i) (q : B w w') : RbL L k0 b w' sv ps i :=
  ⟨own_keepBx h.row q, fun j r hj hr => let ⟨p, lo, hi, h1, h2, h3, h4⟩ := h.tab j r hj hr; ⟨p, lo, hi, h1, h2.keepB q, h3, h4⟩⟩
theorem RbL.put {L : List Rec} {k0 b i : Nat} {w w' : World} {sv : Value} {ps : List Value} {cs : Array Value} {t : TypeId} (h : RbL L k0 b w sv ps i) (ho : w.heap[b]? = some (.cells cs t (0, 0))) (ht : t ≠ 126) (q : G (fun k => k = b) w w') : RbL L k0 b w' sv ps i :=
  ⟨own_objG h.row ho ht q, fun j r hj hr => let ⟨p, lo, hi, h1, h2, h3, h4⟩ := h.tab j r hj hr; ⟨p, lo, hi, h1, q.held h2 (fun k h5 h6 e => by omega), h3, h4⟩⟩
theorem ptInfo : (Try.prog.info? 126).map (fun i => (i.zero, i.size, i.bytes)) = some (some (.pointer none), 1, 8) := by kernel_rfl
/-- One table more: made in blocks from lo on, put into the row. -/
theorem RbL.more {L : List Rec} {k0 b i p : Nat} {r : Rec} {w wt wN : World} {sv : Value} {ps : List Value} {gN cN : Nat} (h : RbL L k0 b w sv ps i) (hr : L[i]? = some r) (hb : b < w.heap.size) (q : B w wt)
    (ht : Held (fun w => RTab w (.pointer (some ⟨p, 0, none⟩)) (slAll r.l)) w.heap.size wt.heap.size wt) (qa : B wt (wt.alloc (.cells #[.pointer (some ⟨p, 0, none⟩)] 126)))
    (hown : wN.ownsRow k0 126 1 (.slice (some ⟨gN, 0, none⟩) (i + 1) cN) (i + 1) (ps ++ [.pointer (some ⟨p, 0, none⟩)])) (hgr : (wt.alloc (.cells #[.pointer (some ⟨p, 0, none⟩)] 126)).grownBy wN sv.ownBlock) (hat : sv.ownBlock = some gN ∨ gN = (wt.alloc (.cells #[.pointer (some ⟨p, 0, none⟩)] 126)).heap.size) :
    RbL L k0 b wN (.slice (some ⟨gN, 0, none⟩) (i + 1) cN) (ps ++ [.pointer (some ⟨p, 0, none⟩)]) (i + 1) := by
  have hz1 := q.below.size
  have hz2 := qa.below.size
  have hps : ps.length = i := by have := h.row.1; omega
  have gA : G (fun k => sv.ownBlock = some k) (wt.alloc (.cells #[.pointer (some ⟨p, 0, none⟩)] 126)) wN := (G.refl _ _).grown hgr (fun k hk => .inl hk)
  have hsv : ∀ g, sv.ownBlock = some g → g < w.heap.size := fun g hg => (h.row.lt g hg).2
  refine ⟨hown, fun j r' hj hr' => ?_⟩
  by_cases e : j = i
  · subst e
    obtain rfl : r = r' := Option.some.inj (hr.symm.trans hr')
    refine ⟨p, w.heap.size, wt.heap.size, by rw [List.getElem?_append_right (by omega), hps, Nat.sub_self]; rfl, gA.held (ht.keepB qa) (fun k h5 h6 e => by have := hsv k e; omega), hb, fun g hg => ?_⟩
    obtain rfl : gN = g := Option.some.inj hg
    rcases hat with h9 | h9
    · exact .inl (hsv _ h9)
    · exact .inr (by omega)
  · obtain ⟨p', lo, hi, h1, h2, h3, h4⟩ := h.tab j r' (by omega) hr'
    refine ⟨p', lo, hi, by rw [List.getElem?_append_left (by omega)]; exact h1, gA.held ((h2.keepB q).keepB qa) (fun k h5 h6 e => by have := h4 k e; omega), h3, fun g hg => ?_⟩
    obtain rfl : gN = g := Option.some.inj hg
    rcases hat with h9 | h9
    · exact h4 _ h9
    · have := h2.le
      exact .inr (by omega)
/-- A board of the document in memory. -/
def RBt (d : Dk) (b : Nat) (wv tv fv : Value) (w : World) : Prop :=
  ∃ gw cw gt ct, w.heap[b]? = some (.cells #[wv, tv, fv, .slice gw d.ws.length cw, .slice gt d.ts.length ct] 42 (0, 0)) ∧
    (∀ (i : Nat) r, d.ws[i]? = some r → ∃ p g, gw = some ⟨g, 0, none⟩ ∧ w.cell? ⟨g, i, none⟩ = some (.pointer (some ⟨p, 0, none⟩)) ∧ RTab w (.pointer (some ⟨p, 0, none⟩)) (slAll r.l)) ∧
    (∀ (i : Nat) r, d.ts[i]? = some r → ∃ p g, gt = some ⟨g, 0, none⟩ ∧ w.cell? ⟨g, i, none⟩ = some (.pointer (some ⟨p, 0, none⟩)) ∧ RTab w (.pointer (some ⟨p, 0, none⟩)) (slAll r.l))
theorem RbL.cells {L : List Rec} {k0 b n : Nat} {w : World} {o : Option Addr} {c : Nat} {ps : List Value} (h : RbL L k0 b w (.slice o n c) ps n) (hn : n = L.length) : ∀ (i : Nat) r, L[i]? = some r → ∃ p g, o = some ⟨g, 0, none⟩ ∧ w.cell? ⟨g, i, none⟩ = some (.pointer (some ⟨p, 0, none⟩)) ∧ RTab w (.pointer (some ⟨p, 0, none⟩)) (slAll r.l) := fun i r hr => by
  have hi : i < n := by rw [hn]; exact (List.getElem?_eq_some_iff.1 hr).1
  obtain ⟨p, lo, hi', h1, h2, _⟩ := h.tab i r hi hr
  obtain ⟨g, cap, e, _⟩ := h.row.form (by omega)
  simp only [Value.slice.injEq, true_and] at e
  obtain ⟨rfl, rfl⟩ := e
  have := h.row.cellAt (i * 1) (by omega)
  rw [Nat.mul_one] at this
  exact ⟨p, g, rfl, this.trans h1, h2.now⟩
theorem RbL.cellsAt {L : List Rec} {k0 b n : Nat} {w w' : World} {o : Option Addr} {c : Nat} {ps : List Value} (h : RbL L k0 b w (.slice o n c) ps n) (hn : n = L.length) (hb : ∀ k, b ≤ k → k < w.heap.size → w'.heap[k]? = w.heap[k]?) (hk : b ≤ k0) : ∀ (i : Nat) r, L[i]? = some r → ∃ p g, o = some ⟨g, 0, none⟩ ∧ w'.cell? ⟨g, i, none⟩ = some (.pointer (some ⟨p, 0, none⟩)) ∧ RTab w' (.pointer (some ⟨p, 0, none⟩)) (slAll r.l) := fun i r hr => by
  have hi : i < n := by rw [hn]; exact (List.getElem?_eq_some_iff.1 hr).1
  obtain ⟨p, lo, hi', h1, h2, h3, _⟩ := h.tab i r hi hr
  have hrow := own_on h.row (fun k h1 h2 => hb k (by omega) h2)
  obtain ⟨g, cap, e, _⟩ := hrow.form (by omega)
  simp only [Value.slice.injEq, true_and] at e
  obtain ⟨rfl, rfl⟩ := e
  have := hrow.cellAt (i * 1) (by omega)
  rw [Nat.mul_one] at this
  exact ⟨p, g, rfl, this.trans h1, h2.any w' (fun k h5 h6 => hb k (by omega) (by have := h2.le; omega))⟩
theorem RbL.on {L : List Rec} {k0 b i : Nat} {w w' : World} {sv : Value} {ps : List Value} (h : RbL L k0 b w sv ps i) (hb : ∀ k, b ≤ k → k < w.heap.size → w'.heap[k]? = w.heap[k]?) (hk : b ≤ k0) (hs : w.heap.size ≤ w'.heap.size) : RbL L k0 b w' sv ps i :=
  ⟨own_on h.row (fun k h1 h2 => hb k (by omega) h2), fun j r hj hr => let ⟨p, lo, hi, h1, h2, h3, h4⟩ := h.tab j r hj hr; ⟨p, lo, hi, h1, h2.on hs (fun k h5 h6 => hb k (by omega) (by have := h2.le; omega)), h3, h4⟩⟩
end Go.Proofs.Ytnmcgleanpdlmaa
