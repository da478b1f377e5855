/-
 Contracts and what they rest on.
-/
import Derived.Shelf.Abstract
import Derived.Deep.CutRange
import Derived.Lib.MinMax
import Derived.Deep.RegionWith
import Derived.Test.YthlileddhgglnaaGreatDoorY4
import Derived.Test.YthlileddhgglnaaGreatDoorY6
namespace Go.Proofs.YthlileddhgglnaaGreatDoor
open Go.RowKit
theorem i64_info : ∃ i, Tryz.prog.info? 2 = some i ∧ i.zero = some (.int .i64 0) ∧ i.size = 1 ∧ i.bytes = 8 :=
 Go.info_parts (by kernel_rfl)
set_option maxRecDepth 100000 in
set_option maxHeartbeats 16000000 in
theorem r3of_row (a : Addr) (cap : Nat) (l : List Sec) (w : World) (h4 : ∀ i s, l[i]? = some s → s.I ∧ SecAt w (a.add (i * 6)) s) (hr : rightS l = true) (cR : ∀ w', B w w' → Calls Tryz.prog 52 #[.slice (some a) l.length cap] w' fun e w'' => e = .returned (.bool true) ∧ Q w' w'') :
  Calls Tryz.prog 71 #[.slice (some a) l.length cap] w fun e w' => ∃ p, e = .returned (.tuple #[p, .bool true]) ∧ Held (fun w => RTab w p (slAll l)) w.heap.size w'.heap.size w' ∧ B w w' := by
 obtain ⟨hl1, hl4, hok⟩ := right_all hr
 obtain ⟨i0, hi0, hz0, hz1, hz2⟩ := i64_info
 have hbnd := slAll_bnd hok
 have hnum := slAll_len l hok
 have hsum : hsumI l l.length ≤ 60000 := by
  unfold rightS at hr
  simp only [Bool.and_eq_true, decide_eq_true_eq] at hr
  exact hr.2
 have hlen : (slAll l).length ≤ 600 := by omega
 clear hr hnum hsum
 go_enter Tryz.func71, Tryz.ntmps71
 go_wp2_with fail
 refine (cR _ (B.refl w)).mono ?_
 rintro e W1 ⟨rfl, g1⟩
 replace g1 := g1.b
 clear cR
 go_wp2
 obtain ⟨tL, tH⟩ := table_start W1 w.heap.size 2 159 g1.below.size
 have gF := ((g1.alloc #[.int .i64 0] 2).alloc #[.int .i64 0] 2).alloc #[.slice (some ⟨W1.heap.size, 0, none⟩) 1 1, .slice (some ⟨W1.heap.size + 1, 0, none⟩) 1 1] 159
 generalize ((W1.alloc (.cells #[.int .i64 0] 2)).alloc (.cells #[.int .i64 0] 2)).alloc (.cells #[.slice (some ⟨W1.heap.size, 0, none⟩) 1 1, .slice (some ⟨W1.heap.size + 1, 0, none⟩) 1 1] 159) = WF at *
 obtain ⟨bt, hbt⟩ : ∃ bt, W1.heap.size + 1 + 1 = bt := ⟨_, rfl⟩
 rw [hbt] at tL tH
 try rw [hbt]
 have hLH : W1.heap.size ≠ W1.heap.size + 1 := by omega
 generalize W1.heap.size + 1 = gH0 at *
 generalize W1.heap.size = gL0 at *
 obtain ⟨BB, hBB⟩ : ∃ BB, w.heap.size = BB := ⟨_, rfl⟩
 rw [hBB] at tL tH
 clear g1 hbt
 have H4 := Lib.hid h4
 have HTL := Lib.hid tL
 have HTH := Lib.hid tH
 clear h4 tL tH
 go_loopw [5] (fun i wr => ∃ (k gL cL gH cH : Nat), k ≤ l.length ∧ i = .int .i64 k ∧ Half wr BB bt 0 2 gL cL (lowCells (slAll (l.take k))) ∧ Half wr BB bt 1 2 gH cH (highCells (slAll (l.take k))) ∧ gL ≠ gH ∧ B w wr) (fun i _ => l.length - (intOf i).toNat)
 case atStart => exact ⟨0, gL0, 1, gH0, 1, Nat.zero_le _, rfl, HTL.out, HTH.out, hLH, gF⟩
 case round =>
  clear HTL HTH
  obtain ⟨k, gL, cL, gH, cH, hk, rfl, tL, tH, hLH', gq⟩ := hrel
  by_cases hl : k < l.length
  ·have hlB : decide (k < l.length) = true := decide_eq_true hl
   have hlI : (k : Int) < (l.length : Int) := by omega
   have hg := List.getElem?_eq_getElem hl
   obtain ⟨hI, hs⟩ := H4.out k _ hg
   have hsk := hok _ (List.getElem_mem hl)
   have hsplit : slAll (l.take (k + 1)) = slAll (l.take k) ++ slOf l[k] := by
    rw [List.take_add_one, hg, slAll_append]; simp [slAll]
   have hpre : (slAll (l.take (k + 1))).length ≤ 600 := by
    have e : slAll l = slAll (l.take (k + 1)) ++ slAll (l.drop (k + 1)) := by rw [← slAll_append, List.take_append_drop]
    rw [e, List.length_append] at hlen
    omega
   have hbk : ∀ x ∈ slAll (l.take (k + 1)), Bnd x := slAll_bnd (fun s hs => hok s (List.mem_of_mem_take hs))
   rw [hsplit] at hpre hbk
   generalize slAll (l.take k) = MK at *
   generalize l[k] = s at *
   obtain ⟨r, h, a0, b0, a1, b1⟩ := s
   obtain ⟨hh1, hh2⟩ := secOk_h _ hsk
   have hmod := secOk_mod hsk
   have hsl : (slOf ⟨r, h, a0, b0, a1, b1⟩).length = (h / 100).toNat := slOf_len _
   have hget : ∀ j : Nat, j < (h / 100).toNat → (slOf ⟨r, h, a0, b0, a1, b1⟩)[j]? = some (100 * lowA ⟨r, h, a0, b0, a1, b1⟩ (100 * (j : Int)), 100 * highA ⟨r, h, a0, b0, a1, b1⟩ (100 * (j : Int))) := fun j hj => by
    unfold slOf
    rw [List.getElem?_map, List.getElem?_range hj]
    rfl
   have hbnds := fun (t : Int) ht => slice_bounds hsk t ht
   have hsin := fun (t : Int) up => sideOf_in hsk t up
   have hlow : ∀ t : Int, lowA ⟨r, h, a0, b0, a1, b1⟩ t = areaM r (min (sideOf ⟨r, h, a0, b0, a1, b1⟩ t false).1 (sideOf ⟨r, h, a0, b0, a1, b1⟩ (t + 100) false).1) (min (sideOf ⟨r, h, a0, b0, a1, b1⟩ t false).2 (sideOf ⟨r, h, a0, b0, a1, b1⟩ (t + 100) false).2) false := fun _ => rfl
   have hhigh : ∀ t : Int, highA ⟨r, h, a0, b0, a1, b1⟩ t = areaM r (max (sideOf ⟨r, h, a0, b0, a1, b1⟩ t true).1 (sideOf ⟨r, h, a0, b0, a1, b1⟩ (t + 100) true).1) (max (sideOf ⟨r, h, a0, b0, a1, b1⟩ t true).2 (sideOf ⟨r, h, a0, b0, a1, b1⟩ (t + 100) true).2) true := fun _ => rfl
   generalize slOf ⟨r, h, a0, b0, a1, b1⟩ = SL at *
   simp only at hh1 hh2 hmod
   have HK1 := Lib.hid hsplit
   clear hsplit
   go_wp2
   have HL := Lib.hid tL
   have HH := Lib.hid tH
   have HOK := Lib.hid (And.intro hok hbnd)
   have HG := Lib.hid hg
   clear tL tH hok hbnd hg
   obtain ⟨wo, rfl⟩ : ∃ wo : World, wo = wr := ⟨_, rfl⟩
   go_loopw [6] (fun i wr => ∃ (j gL cL gH cH : Nat), j ≤ (h / 100).toNat ∧ i = .int .i64 (100 * (j : Int)) ∧ Half wr BB bt 0 2 gL cL (lowCells (MK ++ SL.take j)) ∧ Half wr BB bt 1 2 gH cH (highCells (MK ++ SL.take j)) ∧ gL ≠ gH ∧ B w wr) (fun i _ => (h / 100).toNat - ((intOf i) / 100).toNat)
   case atStart => exact ⟨0, gL, cL, gH, cH, Nat.zero_le _, rfl, by simpa using HL.out, by simpa using HH.out, hLH', gq⟩
   case round =>
    clear HL HH
    obtain ⟨j, gL, cL, gH, cH, hj, rfl, tL, tH, hLH', gq⟩ := hrel
    obtain ⟨f0, f1, f2, f3, f4, f5⟩ := hs.keepB gq
    simp only at f0 f1 f2 f3 f4 f5
    by_cases hjl : j < (h / 100).toNat
    ·have hjB : decide (100 * (j : Int) < h) = true := decide_eq_true (by omega)
     have hgj := hget j hjl
     have hMM : MK ++ SL.take (j + 1) = (MK ++ SL.take j) ++ [(100 * lowA ⟨r, h, a0, b0, a1, b1⟩ (100 * (j : Int)), 100 * highA ⟨r, h, a0, b0, a1, b1⟩ (100 * (j : Int)))] := by
      rw [List.take_add_one, hgj]; simp
     have hMl : (MK ++ SL.take j).length ≤ 599 := by
      rw [List.length_append, List.length_take]
      rw [List.length_append] at hpre
      omega
     have hbM : ∀ x ∈ MK ++ SL.take j, Bnd x := fun x hx => hbk x (by
      rcases List.mem_append.1 hx with h | h
      ·exact List.mem_append.2 (.inl h)
      ·exact List.mem_append.2 (.inr (List.mem_of_mem_take h)))
     obtain ⟨hb1, hb2, hb3⟩ := table_bnd hbM (MK ++ SL.take j).length
     have HRel := Lib.hid hMM
     clear hMM hgj hbM
     obtain ⟨T, hT⟩ : ∃ T : Int, 100 * (j : Int) = T := ⟨_, rfl⟩
     obtain ⟨n, hn⟩ : ∃ n, (MK ++ SL.take j).length = n := ⟨_, rfl⟩
     have tLl := lowCells_len (MK ++ SL.take j)
     have tHl := highCells_len (MK ++ SL.take j)
     have gLn := lowCells_get (MK ++ SL.take j) n (by omega)
     have gHn := highCells_get (MK ++ SL.take j) n (by omega)
     have snL := lowCells_snoc (MK ++ SL.take j) (100 * lowA ⟨r, h, a0, b0, a1, b1⟩ T, 100 * highA ⟨r, h, a0, b0, a1, b1⟩ T)
     have snH := highCells_snoc (MK ++ SL.take j) (100 * lowA ⟨r, h, a0, b0, a1, b1⟩ T, 100 * highA ⟨r, h, a0, b0, a1, b1⟩ T)
     have snn : ∀ x, ((MK ++ SL.take j) ++ [x]).length = n + 1 := fun x => by rw [List.length_append, List.length_singleton, hn]
     rw [hn] at tLl tHl snL snH hMl hb1 hb2 hb3
     rw [hT]
     rw [hT] at hjB HRel
     generalize MK ++ SL.take j = M at *
     obtain ⟨LO, hLO⟩ : ∃ LO, lowT M n = LO := ⟨_, rfl⟩
     obtain ⟨HI, hHI⟩ : ∃ HI, highT M n = HI := ⟨_, rfl⟩
     rw [hLO] at gLn snL hb1 hb2
     rw [hHI] at gHn snH hb2 hb3
     have hT0 : 0 ≤ T := by omega
     have hT1 : T + 100 ≤ 60000 := by omega
     have iT : I64 T := by unfold I64; omega
     have iT' : I64 (T + 100) := by unfold I64; omega
     have eT : IntKind.i64.wrap (T + 100) = T + 100 := wrapI (by omega) (by omega)
     obtain ⟨hx1, hx2, hx3, hx4⟩ := hbnds T hT0
     obtain ⟨q1, q2, q3, q4⟩ := hsin T false
     obtain ⟨q5, q6, q7, q8⟩ := hsin (T + 100) false
     obtain ⟨v1, v2, v3, v4⟩ := hsin T true
     obtain ⟨v5, v6, v7, v8⟩ := hsin (T + 100) true
     have hlowT := hlow T
     have hhighT := hhigh T
     have s1 := fun w => r3side_any r h a0 b0 a1 b1 T false w hI iT
     have s2 := fun w => r3side_any r h a0 b0 a1 b1 (T + 100) false w hI iT'
     have s3 := fun w => r3side_any r h a0 b0 a1 b1 T true w hI iT
     have s4 := fun w => r3side_any r h a0 b0 a1 b1 (T + 100) true w hI iT'
     generalize lowA ⟨r, h, a0, b0, a1, b1⟩ T = XL at *
     generalize highA ⟨r, h, a0, b0, a1, b1⟩ T = XH at *
     generalize (sideOf ⟨r, h, a0, b0, a1, b1⟩ T false).1 = p1 at *
     generalize (sideOf ⟨r, h, a0, b0, a1, b1⟩ T false).2 = p2 at *
     generalize (sideOf ⟨r, h, a0, b0, a1, b1⟩ (T + 100) false).1 = p3 at *
     generalize (sideOf ⟨r, h, a0, b0, a1, b1⟩ (T + 100) false).2 = p4 at *
     generalize (sideOf ⟨r, h, a0, b0, a1, b1⟩ T true).1 = p5 at *
     generalize (sideOf ⟨r, h, a0, b0, a1, b1⟩ T true).2 = p6 at *
     generalize (sideOf ⟨r, h, a0, b0, a1, b1⟩ (T + 100) true).1 = p7 at *
     generalize (sideOf ⟨r, h, a0, b0, a1, b1⟩ (T + 100) true).2 = p8 at *
     obtain ⟨m1, e1⟩ : ∃ m, min p1 p3 = m := ⟨_, rfl⟩
     obtain ⟨m2, e2⟩ : ∃ m, min p2 p4 = m := ⟨_, rfl⟩
     obtain ⟨m3, e3⟩ : ∃ m, max p5 p7 = m := ⟨_, rfl⟩
     obtain ⟨m4, e4⟩ : ∃ m, max p6 p8 = m := ⟨_, rfl⟩
     rw [e1, e2] at hlowT
     rw [e3, e4] at hhighT
     have cA1 := fun w => r3area_any r m1 m2 false (by omega) (by omega) (by omega) (by omega) w
     have cA2 := fun w => r3area_any r m3 m4 true (by omega) (by omega) (by omega) (by omega) w
     rw [← hlowT] at cA1
     rw [← hhighT] at cA2
     obtain ⟨YL, eYL⟩ : ∃ Y, 100 * XL = Y := ⟨_, rfl⟩
     obtain ⟨YH, eYH⟩ : ∃ Y, 100 * XH = Y := ⟨_, rfl⟩
     obtain ⟨ZL, eZL⟩ : ∃ Z, LO + YL = Z := ⟨_, rfl⟩
     obtain ⟨ZH, eZH⟩ : ∃ Z, HI + YH = Z := ⟨_, rfl⟩
     have wYL : IntKind.i64.wrap YL = YL := wrapI (by omega) (by omega)
     have wYH : IntKind.i64.wrap YH = YH := wrapI (by omega) (by omega)
     have wZL : IntKind.i64.wrap ZL = ZL := wrapI (by omega) (by omega)
     have wZH : IntKind.i64.wrap ZH = ZH := wrapI (by omega) (by omega)
     simp only [eYL, eYH, eZL, eZH] at snL snH HRel
     have hcL := tL.cell
     rw [tLl] at hcL
     have hn600 : n ≤ 600 := by omega
     clear hbnds hsin hlow hhigh hget hsk hlowT hhighT hx1 hx2 hx3 hx4 hb1 hb2 hb3 q1 q2 q3 q4 q5 q6 q7 q8 v1 v2 v3 v4 v5 v6 v7 v8 hpre hbk hlen hMl
     go_wp2_with fail
     refine (s1 _).mono ?_
     rintro e wS ⟨rfl, qS⟩
     replace tL := tL.keepB qS.b
     replace tH := tH.keepB qS.b
     replace gq := gq.trans qS.b
     replace f0 := qS.keep f0
     replace f1 := qS.keep f1
     replace f2 := qS.keep f2
     replace f3 := qS.keep f3
     replace f4 := qS.keep f4
     replace f5 := qS.keep f5
     clear qS
     go_wp2_with fail
     refine (s2 _).mono ?_
     rintro e wS ⟨rfl, qS⟩
     replace tL := tL.keepB qS.b
     replace tH := tH.keepB qS.b
     replace gq := gq.trans qS.b
     replace f0 := qS.keep f0
     replace f1 := qS.keep f1
     replace f2 := qS.keep f2
     replace f3 := qS.keep f3
     replace f4 := qS.keep f4
     replace f5 := qS.keep f5
     clear qS
     have hcc := tL.cell
     rw [tLl] at hcc
     have hff := tL.fz
     have hlo : wS.cell? ⟨gL, n, none⟩ = some (.int .i64 LO) := by have := tL.own.cells rfl n _ gLn; rwa [add0] at this
     have hoA : (wS.drew.alloc (.cells #[.int .i64 ZL] 2)).ownsRow BB 2 1 (.slice (some ⟨gL, 0, none⟩) (n + 1) cL) (n + 1) (lowCells M) := by have := (tL.keepB ((B.refl wS).drew.alloc #[.int .i64 ZL] 2)).own; rwa [tLl] at this
     have hwB : BB ≤ wS.heap.size := by rw [← hBB]; exact gq.below.size
     have hbase : BB ≤ (wS.drew.alloc (.cells #[.int .i64 ZL] 2)).heap.size := by rw [alloc_size]; exact Nat.le_succ_of_le hwB
     have hblt : bt < (wS.drew.alloc (.cells #[.int .i64 ZL] 2)).heap.size := by rw [alloc_size]; exact Nat.lt_succ_of_lt tL.blt
     have hbne : some bt ≠ some gL := fun e => tL.ne (Option.some.inj e).symm
     have hrr := f0
     have hnn : (n : Int) < (n : Int) + 1 := by omega
     go_wp2_with fail
     refine wp_region_noPanic ?_
     refine wp_region_gate (S := fun w' => w'.cell? ⟨bt, 0, none⟩ = some (.slice (some ⟨gL, 0, none⟩) (n + 1) cL) ∧ w'.cell? ⟨gL, n, none⟩ = some (.int .i64 LO) ∧ w'.cell? (a.add (k * 6)) = some (.bool r) ∧ Q wS w') 27 [(0, 3), (1, 3), (2, 3), (3, 3), (4, 0), (5, 3), (6, 3), (7, 3), (8, 0), (9, 3), (10, 3), (11, 0), (12, 3), (13, 3), (14, 3), (15, 3), (16, 0), (17, 3), (18, 3), (19, 3), (20, 3), (21, 3), (22, 3), (23, 2), (24, 3), (25, 3), (26, 2), (27, 4), (28, 3), (29, 3), (30, 4)] [0, 0, 2, 4, 8, 0, 32, 64, 128, 0, 768, 1024, 0, 0, 12288, 16384, 32768, 0, 0, 393216, 0, 0, 3145728, 4784128, 8388608, 16779264, 33554432, 75497488, 268435455, 536870911, 805306367] [0, 0, 2, 4, 8, 0, 32, 64, 128, 0, 768, 1024, 0, 0, 12288, 16384, 32768, 0, 0, 393216, 0, 0, 3145728, 4784128, 8388608, 16779264, 33554432, 67108880, 1, 268435456, 671088640] [0, 0, 0, 0, 2013265936, 0, 0, 0, 2113932544, 0, 0, 2113931264, 0, 0, 0, 0, 2139160576, 0, 0, 0, 0, 0, 0, 0, 0, 0, 0, 0, 0, 0, 0] (by kernel_rfl) (by kernel_rfl) (fun _ _ _ _ _ h => h) ?_ (fun hH => ?_)
     ·exact ⟨(Q.refl wS).drew.keep hcc, (Q.refl wS).drew.keep hlo, (Q.refl wS).drew.keep hrr, (Q.refl wS).drew⟩
     refine wpSeqG_free (d := 59) (v := ?_) rfl rfl (by kernel_rfl) (fun w => ?_) ?_
     rotate_left
     ·go_simp <;> with_reducible rfl
     dsimp only [sZ, sS]
     refine wpSeqG_free (d := 60) (v := ?_) rfl rfl (by kernel_rfl) (fun w => ?_) ?_
     rotate_left
     ·go_simp <;> with_reducible rfl
     dsimp only [sZ, sS]
     refine wpSeqG_free (d := 61) (v := ?_) rfl rfl (by kernel_rfl) (fun w => ?_) ?_
     rotate_left
     ·go_simp <;> with_reducible rfl
     dsimp only [sZ, sS]
     refine wpSeqG_free (d := 62) (v := ?_) rfl rfl (by kernel_rfl) (fun w => ?_) ?_
     rotate_left
     ·go_simp <;> with_reducible rfl
     dsimp only [sZ, sS]
     refine wpSeqG_take (d := 63) (v := ?_) rfl rfl (by kernel_rfl) (fun w hS => ?_) ?_
     rotate_left
     ·go_simp <;> with_reducible rfl
     dsimp only [sZ, sS]
     refine wpSeqG_free (d := 64) (v := ?_) rfl rfl (by kernel_rfl) (fun w => ?_) ?_
     rotate_left
     ·go_simp <;> with_reducible rfl
     dsimp only [sZ, sS]
     refine wpSeqG_free (d := 65) (v := ?_) rfl rfl (by kernel_rfl) (fun w => ?_) ?_
     rotate_left
     ·go_simp <;> with_reducible rfl
     dsimp only [sZ, sS]
     refine wpSeqG_free (d := 66) (v := ?_) rfl rfl (by kernel_rfl) (fun w => ?_) ?_
     rotate_left
     ·go_simp <;> with_reducible rfl
     dsimp only [sZ, sS]
     refine wpSeqG_take (d := 67) (v := ?_) rfl rfl (by kernel_rfl) (fun w hS => ?_) ?_
     rotate_left
     ·go_simp <;> with_reducible rfl
     dsimp only [sZ, sS]
     refine wpSeqG_free (d := 68) (v := ?_) rfl rfl (by kernel_rfl) (fun w => ?_) ?_
     rotate_left
     ·go_simp <;> with_reducible rfl
     dsimp only [sZ, sS]
     refine wpSeqG_free (d := 69) (v := ?_) rfl rfl (by kernel_rfl) (fun w => ?_) ?_
     rotate_left
     ·go_simp <;> with_reducible rfl
     dsimp only [sZ, sS]
     refine wpSeqG_take (d := 70) (v := ?_) rfl rfl (by kernel_rfl) (fun w hS => ?_) ?_
     rotate_left
     ·go_simp <;> with_reducible rfl
     dsimp only [sZ, sS]
     refine wpSeqG_free (d := 71) (v := ?_) rfl rfl (by kernel_rfl) (fun w => ?_) ?_
     rotate_left
     ·go_simp <;> with_reducible rfl
     dsimp only [sZ, sS]
     refine wpSeqG_free (d := 72) (v := ?_) rfl rfl (by kernel_rfl) (fun w => ?_) ?_
     rotate_left
     ·go_simp <;> with_reducible rfl
     dsimp only [sZ, sS]
     refine wpSeqG_free (d := 73) (v := ?_) rfl rfl (by kernel_rfl) (fun w => ?_) ?_
     rotate_left
     ·go_simp <;> with_reducible rfl
     dsimp only [sZ, sS]
     refine wpSeqG_free (d := 74) (v := ?_) rfl rfl (by kernel_rfl) (fun w => ?_) ?_
     rotate_left
     ·go_simp <;> with_reducible rfl
     dsimp only [sZ, sS]
     refine wpSeqG_take (d := 75) (v := ?_) rfl rfl (by kernel_rfl) (fun w hS => ?_) ?_
     rotate_left
     ·go_simp <;> with_reducible rfl
     dsimp only [sZ, sS]
     refine wpSeqG_free (d := 76) (v := ?_) rfl rfl (by kernel_rfl) (fun w => ?_) ?_
     rotate_left
     ·go_simp <;> with_reducible rfl
     dsimp only [sZ, sS]
     refine wpSeqG_free (d := 77) (v := ?_) rfl rfl (by kernel_rfl) (fun w => ?_) ?_
     rotate_left
     ·go_simp <;> with_reducible rfl
     dsimp only [sZ, sS]
     refine wpSeqG_free (d := 78) (v := ?_) rfl rfl (by kernel_rfl) (fun w => ?_) ?_
     rotate_left
     ·go_simp <;> with_reducible rfl
     dsimp only [sZ, sS]
     refine wpSeqG_free (d := 79) (v := ?_) rfl rfl (by kernel_rfl) (fun w => ?_) ?_
     rotate_left
     ·go_simp <;> with_reducible rfl
     dsimp only [sZ, sS]
     refine wpSeqG_free (d := 80) (v := ?_) rfl rfl (by kernel_rfl) (fun w => ?_) ?_
     rotate_left
     ·go_simp <;> with_reducible rfl
     dsimp only [sZ, sS]
     refine wpSeqG_free (d := 81) (v := ?_) rfl rfl (by kernel_rfl) (fun w => ?_) ?_
     rotate_left
     ·go_simp <;> with_reducible rfl
     dsimp only [sZ, sS]
     refine wpSeqG_call rfl (by kernel_rfl) (fun K hK => ?_)
     go_simp
     (with_reducible refine (cA1 _).mono ?_)
     rintro e w' ⟨rfl, rfl⟩
     refine hK.out _ _ hH fun hH => ?_
     clear hK
     refine wpSeqG_free (d := 83) (v := ?_) rfl rfl (by kernel_rfl) (fun w => ?_) ?_
     rotate_left
     ·go_simp <;> with_reducible rfl
     dsimp only [sZ, sS]
     refine wpSeqG_free (d := 84) (v := ?_) rfl rfl (by kernel_rfl) (fun w => ?_) ?_
     rotate_left
     ·go_simp <;> with_reducible rfl
     dsimp only [sZ, sS]
     refine wpSeqG_call rfl (by kernel_rfl) (fun K hK => ?_)
     go_simp
     refine hK.out _ _ ?_ (fun hH => ?_)
     ·exact ⟨((Q.refl wS).drew.alloc _ _).keep hcc, ((Q.refl wS).drew.alloc _ _).keep hlo, ((Q.refl wS).drew.alloc _ _).keep hrr, (Q.refl wS).drew.alloc _ _⟩
     clear hK
     refine wpSeqG_gate rfl (by kernel_rfl) (fun K hK => ?_)
     refine wp_append_lies _ _ _ 93 rfl BB 2 i0 (.int .i64 0) 1 8 (by kernel_rfl) hi0 hz0 hz1 hz2 rfl (by omega) _ _ _ rfl hoA ⟨wS.heap.size, 0, none⟩ 1 1 [.int .i64 ZL] rfl rfl (news_plain rfl) (by intro u hu; rw [List.mem_singleton.1 hu]; rfl) (by omega) (by unfold maxLen; omega) (by omega) hbase _ rfl ?_
     intro gN cN wN hownN hgrowN hatN hltN
     have y0 : wN.cell? ⟨bt, 0, none⟩ = some (.slice (some ⟨gL, 0, none⟩) (n + 1) cL) := (World.cell?_of_block (a := ⟨bt, 0, none⟩) (hgrowN.block bt hblt hbne)).trans (((Q.refl wS).drew.alloc _ _).keep hcc)
     have y1 : wN.frozen? ⟨bt, 0, none⟩ = false := (World.frozen?_of_block (a := ⟨bt, 0, none⟩) (hgrowN.block bt hblt hbne)).trans ((((Q.refl wS).drew.alloc _ _).marks _).trans hff)
     try simp only [Act.put, List.setIfInBounds_toArray, List.set_cons_zero, List.set_cons_succ]
     refine hK.out _ _ ?_
     clear hK
     refine wpSeqG_free (d := 87) (v := ?_) rfl rfl (by kernel_rfl) (fun w => ?_) ?_
     rotate_left
     ·go_simp <;> with_reducible rfl
     dsimp only [sZ, sS]
     refine wpSeqG_free (d := 88) (v := ?_) rfl rfl (by kernel_rfl) (fun w => ?_) ?_
     rotate_left
     ·go_simp <;> with_reducible rfl
     dsimp only [sZ, sS]
     refine wpSeqG_gate rfl (by kernel_rfl) (fun K hK => ?_)
     go_simp
     refine hK.out _ _ ?_
     clear hK
     refine wpSeqG_done ?_
     refine NoPanic.normal ?_
     have hel : (lowCells (M ++ [(YL, YH)])).length = n + 1 + 1 := by rw [lowCells_len, snn]
     have hoB : wN.ownsRow BB 2 1 (.slice (some ⟨gN, 0, none⟩) (lowCells (M ++ [(YL, YH)])).length cN) (lowCells (M ++ [(YL, YH)])).length (lowCells (M ++ [(YL, YH)])) := by rw [hel, snL]; exact hownN
     have hgb : gN ≠ bt := by
      rcases hatN with e | e
      ·have e' : gL = gN := Option.some.inj e
       rw [← e']; exact tL.ne
      ·rw [e]; exact Nat.ne_of_gt hblt
     have hg2 : gN ≠ gH := by
      rcases hatN with e | e
      ·have e' : gL = gN := Option.some.inj e
       rw [← e']; exact hLH'
      ·have hz := alloc_size wS (.cells #[.int .i64 ZL] 2)
       have hy := tH.glt.2
       rw [e]
       intro hq
       have hq' : (wS.alloc (.cells #[.int .i64 ZL] 2)).heap.size = gH := hq
       omega
     have tX := Half.put (off := 0) hoB y0 y1 hgb tL.lo
     rw [hel] at tX
     have tY := ((tH.keepB ((B.refl wS).drew.alloc #[.int .i64 ZL] 2)).grown hgrowN (Ne.symm hLH') (Ne.symm tL.ne)).other 0 (by omega) (.slice (some ⟨gN, 0, none⟩) (n + 1 + 1) cN)
     have gN1 := ((gq.drew.alloc #[.int .i64 ZL] 2).grownBy hgrowN (fun b hb => by rw [hBB, ← Option.some.inj hb]; exact tL.glt.1)).setCell (p := ⟨bt, 0, none⟩) (by rw [hBB]; exact tL.lo) (.slice (some ⟨gN, 0, none⟩) (n + 1 + 1) cN)
     clear f0 f1 f2 f3 f4 f5
     obtain ⟨f0, f1, f2, f3, f4, f5⟩ := hs.keepB gN1
     simp only at f0 f1 f2 f3 f4 f5
     generalize wN.setCell ⟨bt, 0, none⟩ (.slice (some ⟨gN, 0, none⟩) (n + 1 + 1) cN) = wX at *
     clear hnn hownN hgrowN hatN hltN y0 y1 hoA hbase hblt hbne hcc hff hlo hrr hwB hoB hel hgb
     have tL := tX
     have tH := tY
     have gq := gN1
     have hLH' := hg2
     clear tX tY gN1 hg2
     obtain ⟨gN0, eg⟩ : ∃ g, g = gN := ⟨_, rfl⟩
     obtain ⟨cN0, ec⟩ : ∃ g, g = cN := ⟨_, rfl⟩
     subst eg ec
     go_wp2_with fail
     refine (s3 _).mono ?_
     rintro e wS ⟨rfl, qS⟩
     replace tL := tL.keepB qS.b
     replace tH := tH.keepB qS.b
     replace gq := gq.trans qS.b
     replace f0 := qS.keep f0
     replace f1 := qS.keep f1
     replace f2 := qS.keep f2
     replace f3 := qS.keep f3
     replace f4 := qS.keep f4
     replace f5 := qS.keep f5
     clear qS
     go_wp2_with fail
     refine (s4 _).mono ?_
     rintro e wS ⟨rfl, qS⟩
     replace tL := tL.keepB qS.b
     replace tH := tH.keepB qS.b
     replace gq := gq.trans qS.b
     replace f0 := qS.keep f0
     replace f1 := qS.keep f1
     replace f2 := qS.keep f2
     replace f3 := qS.keep f3
     replace f4 := qS.keep f4
     replace f5 := qS.keep f5
     clear qS
     have hcc := tH.cell
     rw [tHl] at hcc
     have hff := tH.fz
     have hlo : wS.cell? ⟨gH, n, none⟩ = some (.int .i64 HI) := by have := tH.own.cells rfl n _ gHn; rwa [add0] at this
     have hoA : (wS.drew.alloc (.cells #[.int .i64 ZH] 2)).ownsRow BB 2 1 (.slice (some ⟨gH, 0, none⟩) (n + 1) cH) (n + 1) (highCells M) := by have := (tH.keepB ((B.refl wS).drew.alloc #[.int .i64 ZH] 2)).own; rwa [tHl] at this
     have hwB : BB ≤ wS.heap.size := by rw [← hBB]; exact gq.below.size
     have hbase : BB ≤ (wS.drew.alloc (.cells #[.int .i64 ZH] 2)).heap.size := by rw [alloc_size]; exact Nat.le_succ_of_le hwB
     have hblt : bt < (wS.drew.alloc (.cells #[.int .i64 ZH] 2)).heap.size := by rw [alloc_size]; exact Nat.lt_succ_of_lt tH.blt
     have hbne : some bt ≠ some gH := fun e => tH.ne (Option.some.inj e).symm
     have hrr := f0
     have hnn : (n : Int) < (n : Int) + 1 := by omega
     go_wp2_with fail
     refine wp_region_noPanic ?_
     refine wp_region_gate (S := fun w' => w'.cell? ⟨bt, 1, none⟩ = some (.slice (some ⟨gH, 0, none⟩) (n + 1) cH) ∧ w'.cell? ⟨gH, n, none⟩ = some (.int .i64 HI) ∧ w'.cell? (a.add (k * 6)) = some (.bool r) ∧ Q wS w') 27 [(0, 3), (1, 3), (2, 3), (3, 3), (4, 0), (5, 3), (6, 3), (7, 3), (8, 0), (9, 3), (10, 3), (11, 0), (12, 3), (13, 3), (14, 3), (15, 3), (16, 0), (17, 3), (18, 3), (19, 3), (20, 3), (21, 3), (22, 3), (23, 2), (24, 3), (25, 3), (26, 2), (27, 4), (28, 3), (29, 3), (30, 4)] [0, 0, 2, 4, 8, 0, 32, 64, 128, 0, 768, 1024, 0, 0, 12288, 16384, 32768, 0, 0, 393216, 0, 0, 3145728, 4784128, 8388608, 16779264, 33554432, 75497488, 268435455, 536870911, 805306367] [0, 0, 2, 4, 8, 0, 32, 64, 128, 0, 768, 1024, 0, 0, 12288, 16384, 32768, 0, 0, 393216, 0, 0, 3145728, 4784128, 8388608, 16779264, 33554432, 67108880, 1, 268435456, 671088640] [0, 0, 0, 0, 2013265936, 0, 0, 0, 2113932544, 0, 0, 2113931264, 0, 0, 0, 0, 2139160576, 0, 0, 0, 0, 0, 0, 0, 0, 0, 0, 0, 0, 0, 0] (by kernel_rfl) (by kernel_rfl) (fun _ _ _ _ _ h => h) ?_ (fun hH => ?_)
     ·exact ⟨(Q.refl wS).drew.keep hcc, (Q.refl wS).drew.keep hlo, (Q.refl wS).drew.keep hrr, (Q.refl wS).drew⟩
     refine wpSeqG_free (d := 108) (v := ?_) rfl rfl (by kernel_rfl) (fun w => ?_) ?_
     rotate_left
     ·go_simp <;> with_reducible rfl
     dsimp only [sZ, sS]
     refine wpSeqG_free (d := 109) (v := ?_) rfl rfl (by kernel_rfl) (fun w => ?_) ?_
     rotate_left
     ·go_simp <;> with_reducible rfl
     dsimp only [sZ, sS]
     refine wpSeqG_free (d := 110) (v := ?_) rfl rfl (by kernel_rfl) (fun w => ?_) ?_
     rotate_left
     ·go_simp <;> with_reducible rfl
     dsimp only [sZ, sS]
     refine wpSeqG_free (d := 111) (v := ?_) rfl rfl (by kernel_rfl) (fun w => ?_) ?_
     rotate_left
     ·go_simp <;> with_reducible rfl
     dsimp only [sZ, sS]
     refine wpSeqG_take (d := 112) (v := ?_) rfl rfl (by kernel_rfl) (fun w hS => ?_) ?_
     rotate_left
     ·go_simp <;> with_reducible rfl
     dsimp only [sZ, sS]
     refine wpSeqG_free (d := 113) (v := ?_) rfl rfl (by kernel_rfl) (fun w => ?_) ?_
     rotate_left
     ·go_simp <;> with_reducible rfl
     dsimp only [sZ, sS]
     refine wpSeqG_free (d := 114) (v := ?_) rfl rfl (by kernel_rfl) (fun w => ?_) ?_
     rotate_left
     ·go_simp <;> with_reducible rfl
     dsimp only [sZ, sS]
     refine wpSeqG_free (d := 115) (v := ?_) rfl rfl (by kernel_rfl) (fun w => ?_) ?_
     rotate_left
     ·go_simp <;> with_reducible rfl
     dsimp only [sZ, sS]
     refine wpSeqG_take (d := 116) (v := ?_) rfl rfl (by kernel_rfl) (fun w hS => ?_) ?_
     rotate_left
     ·go_simp <;> with_reducible rfl
     dsimp only [sZ, sS]
     refine wpSeqG_free (d := 117) (v := ?_) rfl rfl (by kernel_rfl) (fun w => ?_) ?_
     rotate_left
     ·go_simp <;> with_reducible rfl
     dsimp only [sZ, sS]
     refine wpSeqG_free (d := 118) (v := ?_) rfl rfl (by kernel_rfl) (fun w => ?_) ?_
     rotate_left
     ·go_simp <;> with_reducible rfl
     dsimp only [sZ, sS]
     refine wpSeqG_take (d := 119) (v := ?_) rfl rfl (by kernel_rfl) (fun w hS => ?_) ?_
     rotate_left
     ·go_simp <;> with_reducible rfl
     dsimp only [sZ, sS]
     refine wpSeqG_free (d := 120) (v := ?_) rfl rfl (by kernel_rfl) (fun w => ?_) ?_
     rotate_left
     ·go_simp <;> with_reducible rfl
     dsimp only [sZ, sS]
     refine wpSeqG_free (d := 121) (v := ?_) rfl rfl (by kernel_rfl) (fun w => ?_) ?_
     rotate_left
     ·go_simp <;> with_reducible rfl
     dsimp only [sZ, sS]
     refine wpSeqG_free (d := 122) (v := ?_) rfl rfl (by kernel_rfl) (fun w => ?_) ?_
     rotate_left
     ·go_simp <;> with_reducible rfl
     dsimp only [sZ, sS]
     refine wpSeqG_free (d := 123) (v := ?_) rfl rfl (by kernel_rfl) (fun w => ?_) ?_
     rotate_left
     ·go_simp <;> with_reducible rfl
     dsimp only [sZ, sS]
     refine wpSeqG_take (d := 124) (v := ?_) rfl rfl (by kernel_rfl) (fun w hS => ?_) ?_
     rotate_left
     ·go_simp <;> with_reducible rfl
     dsimp only [sZ, sS]
     refine wpSeqG_free (d := 125) (v := ?_) rfl rfl (by kernel_rfl) (fun w => ?_) ?_
     rotate_left
     ·go_simp <;> with_reducible rfl
     dsimp only [sZ, sS]
     refine wpSeqG_free (d := 126) (v := ?_) rfl rfl (by kernel_rfl) (fun w => ?_) ?_
     rotate_left
     ·go_simp <;> with_reducible rfl
     dsimp only [sZ, sS]
     refine wpSeqG_free (d := 127) (v := ?_) rfl rfl (by kernel_rfl) (fun w => ?_) ?_
     rotate_left
     ·go_simp <;> with_reducible rfl
     dsimp only [sZ, sS]
     refine wpSeqG_free (d := 128) (v := ?_) rfl rfl (by kernel_rfl) (fun w => ?_) ?_
     rotate_left
     ·go_simp <;> with_reducible rfl
     dsimp only [sZ, sS]
     refine wpSeqG_free (d := 129) (v := ?_) rfl rfl (by kernel_rfl) (fun w => ?_) ?_
     rotate_left
     ·go_simp <;> with_reducible rfl
     dsimp only [sZ, sS]
     refine wpSeqG_free (d := 130) (v := ?_) rfl rfl (by kernel_rfl) (fun w => ?_) ?_
     rotate_left
     ·go_simp <;> with_reducible rfl
     dsimp only [sZ, sS]
     refine wpSeqG_call rfl (by kernel_rfl) (fun K hK => ?_)
     go_simp
     (with_reducible refine (cA2 _).mono ?_)
     rintro e w' ⟨rfl, rfl⟩
     refine hK.out _ _ hH fun hH => ?_
     clear hK
     refine wpSeqG_free (d := 132) (v := ?_) rfl rfl (by kernel_rfl) (fun w => ?_) ?_
     rotate_left
     ·go_simp <;> with_reducible rfl
     dsimp only [sZ, sS]
     refine wpSeqG_free (d := 133) (v := ?_) rfl rfl (by kernel_rfl) (fun w => ?_) ?_
     rotate_left
     ·go_simp <;> with_reducible rfl
     dsimp only [sZ, sS]
     refine wpSeqG_call rfl (by kernel_rfl) (fun K hK => ?_)
     go_simp
     refine hK.out _ _ ?_ (fun hH => ?_)
     ·exact ⟨((Q.refl wS).drew.alloc _ _).keep hcc, ((Q.refl wS).drew.alloc _ _).keep hlo, ((Q.refl wS).drew.alloc _ _).keep hrr, (Q.refl wS).drew.alloc _ _⟩
     clear hK
     refine wpSeqG_gate rfl (by kernel_rfl) (fun K hK => ?_)
     refine wp_append_lies _ _ _ 93 rfl BB 2 i0 (.int .i64 0) 1 8 (by kernel_rfl) hi0 hz0 hz1 hz2 rfl (by omega) _ _ _ rfl hoA ⟨wS.heap.size, 0, none⟩ 1 1 [.int .i64 ZH] rfl rfl (news_plain rfl) (by intro u hu; rw [List.mem_singleton.1 hu]; rfl) (by omega) (by unfold maxLen; omega) (by omega) hbase _ rfl ?_
     intro gN cN wN hownN hgrowN hatN hltN
     have y0 : wN.cell? ⟨bt, 1, none⟩ = some (.slice (some ⟨gH, 0, none⟩) (n + 1) cH) := (World.cell?_of_block (a := ⟨bt, 1, none⟩) (hgrowN.block bt hblt hbne)).trans (((Q.refl wS).drew.alloc _ _).keep hcc)
     have y1 : wN.frozen? ⟨bt, 1, none⟩ = false := (World.frozen?_of_block (a := ⟨bt, 1, none⟩) (hgrowN.block bt hblt hbne)).trans ((((Q.refl wS).drew.alloc _ _).marks _).trans hff)
     try simp only [Act.put, List.setIfInBounds_toArray, List.set_cons_zero, List.set_cons_succ]
     refine hK.out _ _ ?_
     clear hK
     refine wpSeqG_free (d := 136) (v := ?_) rfl rfl (by kernel_rfl) (fun w => ?_) ?_
     rotate_left
     ·go_simp <;> with_reducible rfl
     dsimp only [sZ, sS]
     refine wpSeqG_free (d := 137) (v := ?_) rfl rfl (by kernel_rfl) (fun w => ?_) ?_
     rotate_left
     ·go_simp <;> with_reducible rfl
     dsimp only [sZ, sS]
     refine wpSeqG_gate rfl (by kernel_rfl) (fun K hK => ?_)
     go_simp
     refine hK.out _ _ ?_
     clear hK
     refine wpSeqG_done ?_
     refine NoPanic.normal ?_
     have hel : (highCells (M ++ [(YL, YH)])).length = n + 1 + 1 := by rw [highCells_len, snn]
     have hoB : wN.ownsRow BB 2 1 (.slice (some ⟨gN, 0, none⟩) (highCells (M ++ [(YL, YH)])).length cN) (highCells (M ++ [(YL, YH)])).length (highCells (M ++ [(YL, YH)])) := by rw [hel, snH]; exact hownN
     have hgb : gN ≠ bt := by
      rcases hatN with e | e
      ·have e' : gH = gN := Option.some.inj e
       rw [← e']; exact tH.ne
      ·rw [e]; exact Nat.ne_of_gt hblt
     have hg2 : gN ≠ gN0 := by
      rcases hatN with e | e
      ·have e' : gH = gN := Option.some.inj e
       rw [← e']; exact Ne.symm hLH'
      ·have hz := alloc_size wS (.cells #[.int .i64 ZH] 2)
       have hy := tL.glt.2
       rw [e]
       intro hq
       have hq' : (wS.alloc (.cells #[.int .i64 ZH] 2)).heap.size = gN0 := hq
       omega
     have tX := Half.put (off := 1) hoB y0 y1 hgb tH.lo
     rw [hel] at tX
     have tY := ((tL.keepB ((B.refl wS).drew.alloc #[.int .i64 ZH] 2)).grown hgrowN (hLH') (Ne.symm tH.ne)).other 1 (by omega) (.slice (some ⟨gN, 0, none⟩) (n + 1 + 1) cN)
     have gN1 := ((gq.drew.alloc #[.int .i64 ZH] 2).grownBy hgrowN (fun b hb => by rw [hBB, ← Option.some.inj hb]; exact tH.glt.1)).setCell (p := ⟨bt, 1, none⟩) (by rw [hBB]; exact tH.lo) (.slice (some ⟨gN, 0, none⟩) (n + 1 + 1) cN)
     clear f0 f1 f2 f3 f4 f5
     obtain ⟨f0, f1, f2, f3, f4, f5⟩ := hs.keepB gN1
     simp only at f0 f1 f2 f3 f4 f5
     generalize wN.setCell ⟨bt, 1, none⟩ (.slice (some ⟨gN, 0, none⟩) (n + 1 + 1) cN) = wX at *
     clear hnn hownN hgrowN hatN hltN y0 y1 hoA hbase hblt hbne hcc hff hlo hrr hwB hoB hel hgb
     have HTL := Lib.hid tY
     have HTH := Lib.hid tX
     clear tX tY tL tH f0 f1 f2 f3 f4 f5 snL snH gLn gHn tLl tHl hcL cA1 cA2 s1 s2 s3 s4
     go_wp2
     go_roundw
     case rel => exact ⟨j + 1, gN0, cN0, gN, cN, by omega, by go_num, by rw [HRel.out]; exact HTL.out, by rw [HRel.out]; exact HTH.out, Ne.symm hg2, gN1⟩
     case measure => simp [intOf]; omega
    ·have hjB : decide (100 * (j : Int) < h) = false := decide_eq_false (by omega)
     obtain rfl : j = (h / 100).toNat := by omega
     rw [← hsl, List.take_length] at tL tH
     have HL := Lib.hid tL
     have HH := Lib.hid tH
     clear tL tH
     go_wp2
     go_roundw
     case rel => exact ⟨k + 1, gL, cL, gH, cH, by omega, by go_num, by rw [HK1.out]; exact HL.out, by rw [HK1.out]; exact HH.out, hLH', gq⟩
     case measure => simp [intOf]; omega
  ·have hlB : decide (k < l.length) = false := decide_eq_false hl
   obtain rfl : k = l.length := by omega
   rw [List.take_length] at tL tH
   have R := rtab_held tL tH
   rw [← hBB] at R
   have HR := Lib.hid R
   clear R tL tH hok hbnd H4
   go_wp2
   go_ret2
   exact ⟨_, rfl, HR.out, gq⟩
end Go.Proofs.YthlileddhgglnaaGreatDoor
namespace Go.Proofs.YthlileddhgglnaaGreatDoor
open Go.RowKit
def OfRes (T : World → Value → List (Int × Int) → Prop) (l : List Sec) (yes no : Value → Value) (w : World) (e : Ending) (w' : World) : Prop :=
 (rightS l = true ∧ ∃ p, e = .returned (yes p) ∧ T w' p (slAll l) ∧ B w w') ∨ (rightS l = false ∧ e = .returned (no (.pointer none)) ∧ B w w')
theorem r3of_held (v : Value) (l : List Sec) (w : World) (hv : IsSecs w v l) :
  Calls Tryz.prog 71 #[v] w (OfRes (fun w' p L => Held (fun w => RTab w p L) w.heap.size w'.heap.size w') l (fun p => .tuple #[p, .bool true]) (fun p => .tuple #[p, .bool false]) w) := by
 by_cases hr : rightS l = true
 ·rcases hv with ⟨rfl, rfl⟩ | ⟨a, cap, rfl, h2, h3, h4⟩
  ·exact absurd hr (by decide)
  ·have cR : ∀ w', B w w' → Calls Tryz.prog 52 #[.slice (some a) l.length cap] w' fun e w'' => e = .returned (.bool true) ∧ Q w' w'' := fun w' q => by
    have := r3right_any (.slice (some a) l.length cap) l w' (.inr ⟨a, cap, rfl, h2, h3, fun i s hs => ⟨(h4 i s hs).1, (h4 i s hs).2.keepB q⟩⟩)
    rwa [hr] at this
   exact (r3of_row a cap l w h4 hr cR).mono fun e w' ⟨p, h1, h2, h3⟩ => .inl ⟨hr, p, h1, h2, h3⟩
 ·have hr' : rightS l = false := by simpa using hr
  have c := fun w hv => r3right_any v l w hv
  rw [hr'] at c
  have HV := Lib.hid hv
  have HR := Lib.hid hr'
  clear hv hr hr'
  go_enter Tryz.func71, Tryz.ntmps71
  go_wp2_with fail
  refine (c _ HV.out).mono ?_
  rintro e W1 ⟨rfl, g1⟩
  go_wp2
  go_ret2
  exact .inr ⟨HR.out, rfl, g1.b⟩
structure TBnd (L : List (Int × Int)) : Prop where
 b : ∀ x ∈ L, Bnd x
 n : L.length ≤ 600
theorem tbnd_of {l : List Sec} (hr : rightS l = true) : TBnd (slAll l) := by
 obtain ⟨hl1, hl4, hok⟩ := right_all hr
 have hnum := slAll_len l hok
 have hsum : hsumI l l.length ≤ 60000 := by
  unfold rightS at hr
  simp only [Bool.and_eq_true, decide_eq_true_eq] at hr
  exact hr.2
 exact ⟨slAll_bnd hok, by omega⟩
theorem TBnd.at {L : List (Int × Int)} (h : TBnd L) (k : Nat) (hk : k ≤ L.length) : 0 ≤ lowT L k ∧ lowT L k ≤ highT L k ∧ highT L k ≤ 24000000000000 := by
 obtain ⟨h1, h2, h3⟩ := table_bnd h.b k
 have := h.n
 refine ⟨h1, h2, ?_⟩
 have : (k : Int) ≤ 600 := by omega
 omega
end Go.Proofs.YthlileddhgglnaaGreatDoor
namespace Go.Proofs.YthlileddhgglnaaGreatDoor
open Go.RowKit
def OfN (T : World → Value → List (Int × Int) → Prop) : Prop :=
 ∀ (v : Value) (l : List Sec) (w : World), IsSecs w v l → Calls Tryz.prog 128 #[v] w (OfRes (fun w' p L => TabN T w.heap.size w'.heap.size w' p L) l (fun p => .tuple #[p, .int .i64 0]) (fun p => .tuple #[p, .int .i64 23]) w)
section
variable {T : World → Value → List (Int × Int) → Prop} {c bm base n : Nat} {E : List Ent} {F : List Sec → DataW Unit}
structure Made (T : World → Value → List (Int × Int) → Prop) (c bm base n b : Nat) (l : List Sec) (F : List Sec → DataW Unit) (E : List Ent) (w : World) (p : Value) (lo hi : Nat) (w' : World) : Prop where
 obj : w'.heap[b]? = some (.cells #[.int .u32 0, .int .i32 1, .int .u32 0, p] 212 (0, 0))
 tab : TabN T lo hi w' p (slAll l)
 lo : w.heap.size ≤ lo
 cache : CacheM T w' c bm base n (E.length + 1) (E.length + 1) F E
 g : G (fun i => i = c ∨ i = b) w w'
theorem made_all (w w1 : World) (p : Value) (b : Nat) (l : List Sec) (hC : CacheM T w c bm base n E.length (E.length + 1) F E) (hb : base ≤ b) (hbE : ∀ e ∈ E, e.hi ≤ b) (ho : w.heap[b]? = some (.cells #[.int .u32 0, .int .i32 1, .int .u32 0, .pointer none] 212 (0, 0)))
  (q : B w w1) (ht : TabN T w.heap.size w1.heap.size w1 p (slAll l)) :
  Made T c bm base n b l F E w p w.heap.size w1.heap.size ((w1.setCell ⟨b, 3, none⟩ p).setCell ⟨c, 1, none⟩ (.int .i64 (E.length + 1))) := by
 have h1 := hC.lb
 have h2 := hC.lt
 have hlt := obj_lt ho
 have o1 := (q.g (fun _ => False)).obj (fun h => h) ho
 have o2 := obj_set o1 3 p
 have o3 := obj_other o2 (p := ⟨c, 1, none⟩) (by show b ≠ c; omega) (.int .i64 (E.length + 1))
 have k1 := hC.keepB q
 have gb : G (fun i => i = b) w1 (w1.setCell ⟨b, 3, none⟩ p) := one_own _ _ _ _
 have gc : G (fun i => i = c) (w1.setCell ⟨b, 3, none⟩ p) ((w1.setCell ⟨b, 3, none⟩ p).setCell ⟨c, 1, none⟩ (.int .i64 (E.length + 1))) := one_own _ _ _ _
 have oc := obj_other k1.obj (p := ⟨b, 3, none⟩) (by show c ≠ b; omega) p
 have oc2 := obj_set oc 1 (.int .i64 (E.length + 1))
 have gg := (gb.mono (S' := fun i => i = c ∨ i = b) (fun _ _ h => .inr h)).trans (gc.mono (S' := fun i => i = c ∨ i = b) (fun _ _ h => .inl h))
 refine ⟨o3, gg.tabN ht (fun i h3 h4 h5 => ?_), Nat.le_refl _, ?_, (q.g _).trans gg⟩
 ·rcases h5 with rfl | rfl
  ·have := hC.le; omega
  ·omega
 ·obtain ⟨D, hD, hF⟩ := k1.map
  refine ⟨oc2, ⟨D, ?_, hF⟩, h2, h1, Nat.le_trans k1.le gg.size, fun e he => ?_, k1.apart⟩
  ·exact (hD.setCell (a := ⟨b, 3, none⟩) (by show bm ≠ b; omega) _).setCell (a := ⟨c, 1, none⟩) (by show bm ≠ c; omega) _
  ·have h3 := k1.ents e he
   have h4 := hbE e he
   have h5 := h3.ord
   have h6 := h3.low
   have h7 := h3.tab.at_
   have h8 : e.lo < e.hi := by obtain ⟨x, _, y1, y2⟩ := h7; omega
   exact ⟨gg.obj (fun h => by rcases h with h | h <;> omega) h3.obj, gg.tabN h3.tab (fun i z1 z2 h => by rcases h with h | h <;> omega), h3.right, h3.low, h3.ord⟩
set_option maxRecDepth 100000 in
set_option maxHeartbeats 1600000 in
theorem made_any (hOf : OfN T) (w : World) (v : Value) (l : List Sec) (b sB eB cB : Nat) (hC : CacheM T w c bm base n E.length (E.length + 1) F E) (hE : E.length < 1000000) (hv : IsSecs w v l) (hr : rightS l = true)
  (hb : base ≤ b) (hbE : ∀ e ∈ E, e.hi ≤ b) (ho : w.heap[b]? = some (.cells #[.int .u32 0, .int .i32 1, .int .u32 0, .pointer none] 212 (0, 0)))
  (hs : w.cell? ⟨sB, 0, none⟩ = some v) (he : w.cell? ⟨eB, 0, none⟩ = some (.pointer (some ⟨b, 0, none⟩))) (hc : w.cell? ⟨cB, 0, none⟩ = some (.pointer (some ⟨c, 0, none⟩))) :
  Calls Tryz.prog 127 #[.pointer (some ⟨sB, 0, none⟩), .pointer (some ⟨eB, 0, none⟩), .pointer (some ⟨cB, 0, none⟩)] w fun e w' => e = .returned (.tuple #[]) ∧ ∃ p lo hi, Made T c bm base n b l F E w p lo hi w' := by
 have cOf : ∀ w', B w w' → w'.heap.size = w.heap.size → Calls Tryz.prog 128 #[v] w' fun e w'' => ∃ p, e = .returned (.tuple #[p, .int .i64 0]) ∧ TabN T w.heap.size w''.heap.size w'' p (slAll l) ∧ B w w'' := fun w' q hsz => (hOf v l w' (hv.keepB q)).mono fun e w'' h => by
  rcases h with ⟨_, p, h1, h2, h3⟩ | ⟨h0, _⟩
  ·rw [hsz] at h2
   exact ⟨p, h1, h2, q.trans h3⟩
  ·rw [hr] at h0; cases h0
 have all := fun w1 p q ht => made_all w w1 p b l hC hb hbE ho q ht
 have h1 := hC.lb
 have cbB : cB ≠ b := fun e => by
  subst e
  rw [obj_cell ho] at hc
  cases hc
 have cO := hC.obj
 have wE : wrap64 ((E.length : Int) + 1) = (E.length : Int) + 1 := by unfold wrap64; omega
 go_enter Tryz.func127, Tryz.ntmps127
 go_wp2_with fail
 have HA := Lib.hid all
 have HO := Lib.hid ho
 clear all ho hC hbE hv hr hOf
 go_region_with (go_at_call 128; refine (cOf _ ((B.refl w).drew) rfl).mono ?_; rintro e w1 ⟨p, rfl, ht, q1⟩; obtain ⟨x, rfl, hx1, hx2⟩ := ht.at_; have he1 := q1.keep he; have b31 : w1.cell? ⟨b, 3, none⟩ = some (.pointer none) := (q1.keep (by rw [obj_cell HO.out]; rfl)); have bf1 : w1.frozen? ⟨b, 3, none⟩ = false := obj_free ((q1.g (fun _ => False)).obj (fun h => h) HO.out) 3)
 all_goals
  have oc := obj_other ((q1.g (fun _ => False)).obj (fun h => h) cO) (p := ⟨b, 3, none⟩) (by show c ≠ b; omega) (.pointer (some ⟨x, 0, none⟩))
  have cc := (World.cell?_setCell_other w1 ⟨b, 3, none⟩ ⟨cB, 0, none⟩ (.pointer (some ⟨x, 0, none⟩)) (fun e => cbB (congrArg Addr.block e).symm)).trans (q1.keep hc)
  have c1 : (w1.setCell ⟨b, 3, none⟩ (.pointer (some ⟨x, 0, none⟩))).cell? ⟨c, 1, none⟩ = some (.int .i64 E.length) := by rw [obj_cell oc]; rfl
  have cN := count_any c 1 _ 1 _ c1 (obj_free oc 1)
  rw [wE] at cN
  go_wp2_with (go_at_call 124; refine cN.mono ?_; rintro e w2 ⟨rfl, rfl⟩)
  go_end0
  exact ⟨rfl, _, _, _, HA.out w1 _ q1 ht⟩
end
end Go.Proofs.YthlileddhgglnaaGreatDoor
namespace Go.Proofs.YthlileddhgglnaaGreatDoor
open Go.RowKit
def AtE (T : World → Value → List (Int × Int) → Prop) (c bm base n : Nat) (E : List Ent) (l : List Sec) (lb b : Nat) (w : World) : Prop :=
 (∃ e0 ∈ E, e0.l = l ∧ b = e0.b ∧ CacheC T w c bm base n E) ∨
 ((∀ e ∈ E, e.l ≠ l) ∧ (∀ e ∈ E, e.hi ≤ b) ∧ (base ≤ b ∧ lb ≤ b) ∧ w.heap[b]? = some (.cells #[.int .u32 0, .int .i32 0, .int .u32 0, .pointer none] 212 (0, 0)) ∧
  CacheM T w c bm base n E.length (E.length + 1) (fun l' => if l' = l then .lit (.int .i64 b) else entD E l') E)
structure Mid (T : World → Value → List (Int × Int) → Prop) (c bm base n : Nat) (E : List Ent) (l : List Sec) (v : Value) (w0 : World) (b eB sB cB : Nat) (w : World) : Prop where
 at_ : AtE T c bm base n E l w0.heap.size b w
 secs : IsSecs w v l
 eC : w.cell? ⟨eB, 0, none⟩ = some (.pointer (some ⟨b, 0, none⟩))
 sC : w.cell? ⟨sB, 0, none⟩ = some v
 cC : w.cell? ⟨cB, 0, none⟩ = some (.pointer (some ⟨c, 0, none⟩))
 g : G (CS c bm) w0 w
section
variable {T : World → Value → List (Int × Int) → Prop} {c bm base n : Nat} {E : List Ent} {l : List Sec}
theorem AtE.keepB {w w' : World} {lb b : Nat} (h : AtE T c bm base n E l lb b w) (q : B w w') : AtE T c bm base n E l lb b w' := by
 rcases h with ⟨e0, h1, h2, h3, h4⟩ | ⟨h1, h2, h3, h4, h5⟩
 ·exact .inl ⟨e0, h1, h2, h3, CacheM.keepB h4 q⟩
 ·exact .inr ⟨h1, h2, h3, (q.g (fun _ => False)).obj (fun h => h) h4, h5.keepB q⟩
theorem mid_store {v : Value} {w5 w6 : World} {b eB sB cB : Nat} {u : Value} {F : List Sec → DataW Unit} {m k : Nat} (hC : CacheM T w5 c bm base n m k F E) (hv : IsSecs w5 v l) (sC : w5.cell? ⟨sB, 0, none⟩ = some v) (cC : w5.cell? ⟨cB, 0, none⟩ = some (.pointer (some ⟨c, 0, none⟩)))
  (sne : sB ≠ c ∧ sB ≠ bm) (cne : cB ≠ c ∧ cB ≠ bm) (g : G (CS c bm) w5 w6) (hA : AtE T c bm base n E l w5.heap.size b w6) (heB : w5.heap.size ≤ eB) (hne : b ≠ eB) (hu : w6.cell? ⟨eB, 0, none⟩ = some u) :
  Mid T c bm base n E l v w5 b eB sB cB (w6.setCell ⟨eB, 0, none⟩ (.pointer (some ⟨b, 0, none⟩))) := by
 have his := hC.his
 have h1 := hC.lt
 have h2 := hC.lb
 have h3 := hC.le
 have ge : G (fun i => i = eB) w6 (w6.setCell ⟨eB, 0, none⟩ (.pointer (some ⟨b, 0, none⟩))) := one_own _ _ _ _
 have gg : G (CS c bm) w5 (w6.setCell ⟨eB, 0, none⟩ (.pointer (some ⟨b, 0, none⟩))) := g.setCell (.inr heB) _
 refine ⟨?_, hC.secs hv gg, World.cell?_setCell_same _ _ _ hu, gg.keep (by rintro (h | h); exact sne.1 h; exact sne.2 h) sC, gg.keep (by rintro (h | h); exact cne.1 h; exact cne.2 h) cC, gg⟩
 have ap : ∀ i, i = eB → i ≠ c ∧ i ≠ bm ∧ ∀ e ∈ E, i ≠ e.b ∧ (i < e.lo ∨ e.hi ≤ i) := fun i hi => by
  subst hi
  refine ⟨by omega, by omega, fun e he => ?_⟩
  obtain ⟨y1, y2, y3⟩ := his e he
  exact ⟨by omega, .inr (by omega)⟩
 rcases hA with ⟨e0, k1, k2, k3, k4⟩ | ⟨k1, k2, k3, k4, k5⟩
 ·exact .inl ⟨e0, k1, k2, k3, CacheM.apartG k4 ge ap⟩
 ·exact .inr ⟨k1, k2, k3, ge.obj hne k4, k5.apartG ge ap⟩
theorem mid_new {v : Value} {w5 w6 : World} {b sB cB : Nat} {F : List Sec → DataW Unit} {m k : Nat} {t : TypeId} (hC : CacheM T w5 c bm base n m k F E) (hv : IsSecs w5 v l) (sC : w5.cell? ⟨sB, 0, none⟩ = some v) (cC : w5.cell? ⟨cB, 0, none⟩ = some (.pointer (some ⟨c, 0, none⟩)))
  (sne : sB ≠ c ∧ sB ≠ bm) (cne : cB ≠ c ∧ cB ≠ bm) (g : G (CS c bm) w5 w6) (hA : AtE T c bm base n E l w5.heap.size b w6) :
  Mid T c bm base n E l v w5 b w6.heap.size sB cB (w6.alloc (.cells #[.pointer (some ⟨b, 0, none⟩)] t)) := by
 have gg := g.alloc (.cells #[.pointer (some ⟨b, 0, none⟩)] t)
 exact ⟨hA.keepB ((B.refl w6).alloc _ _), hC.secs hv gg, by simp, gg.keep (by rintro (h | h); exact sne.1 h; exact sne.2 h) sC, gg.keep (by rintro (h | h); exact cne.1 h; exact cne.2 h) cC, gg⟩
theorem new_locked {w : World} {b : Nat} (hn : ∀ e ∈ E, e.hi ≤ b) (hb : base ≤ b) (ho : w.heap[b]? = some (.cells #[.int .u32 0, .int .i32 0, .int .u32 0, .pointer none] 212 (0, 0))) {F : List Sec → DataW Unit} {m k : Nat} (hC : CacheM T w c bm base n m k F E) :
  CacheM T (w.setCell ⟨b, 1, none⟩ (.int .i32 1)) c bm base n m k F E ∧ (w.setCell ⟨b, 1, none⟩ (.int .i32 1)).heap[b]? = some (.cells #[.int .u32 0, .int .i32 1, .int .u32 0, .pointer none] 212 (0, 0)) ∧ G (fun i => i = b) w (w.setCell ⟨b, 1, none⟩ (.int .i32 1)) := by
 have h1 := hC.lt
 have h2 := hC.lb
 have his := hC.his
 refine ⟨hC.apartG (one_own w b 1 _) (fun i hi => ?_), obj_set ho 1 _, one_own _ _ _ _⟩
 subst hi
 refine ⟨by omega, by omega, fun e he => ?_⟩
 have := hn e he
 obtain ⟨y1, y2, y3⟩ := his e he
 exact ⟨by omega, .inr (by omega)⟩
theorem made_end {w w8 : World} {b : Nat} {p : Value} {lo hi : Nat} (hr : rightS l = true) (hn : ∀ e ∈ E, e.l ≠ l) (hb : base ≤ b) (hbE : ∀ e ∈ E, e.hi ≤ b) (hlt : b < w.heap.size)
  (h : Made T c bm base n b l (fun l' => if l' = l then .lit (.int .i64 b) else entD E l') E w p lo hi w8) :
  CacheC T ((w8.drew.setCell ⟨b, 0, none⟩ (.int .u32 1)).setCell ⟨b, 1, none⟩ (.int .i32 0)) c bm base n (E ++ [⟨l, b, p, lo, hi⟩]) ∧
  ((w8.drew.setCell ⟨b, 0, none⟩ (.int .u32 1)).setCell ⟨b, 1, none⟩ (.int .i32 0)).cell? ⟨b, 3, none⟩ = some p ∧
  G (fun i => i = c ∨ i = b) w ((w8.drew.setCell ⟨b, 0, none⟩ (.int .u32 1)).setCell ⟨b, 1, none⟩ (.int .i32 0)) := by
 have h1 := h.cache.lt
 have h2 := h.cache.lb
 have his := h.cache.his
 have hlo := h.lo
 have gb : G (fun i => i = b) w8 ((w8.drew.setCell ⟨b, 0, none⟩ (.int .u32 1)).setCell ⟨b, 1, none⟩ (.int .i32 0)) := (((G.refl (fun i => i = b) w8).drew).trans (one_own _ b 0 _)).trans (one_own _ b 1 _)
 have o1 : w8.drew.heap[b]? = some (.cells #[.int .u32 0, .int .i32 1, .int .u32 0, p] 212 (0, 0)) := h.obj
 have o3 := obj_set (obj_set o1 0 (.int .u32 1)) 1 (.int .i32 0)
 refine ⟨CacheM.more hn (h.cache.apartG gb (fun i hi' => ?_)) ⟨?_, gb.tabN h.tab (fun i y1 y2 y3 => by have y4 : lo ≤ i := y1; omega), hr, hb, by show b < lo; omega⟩ hbE, ?_, h.g.trans (gb.mono (fun _ _ h => .inr h))⟩
 ·subst hi'
  refine ⟨by omega, by omega, fun e he => ?_⟩
  have := hbE e he
  obtain ⟨y1, y2, y3⟩ := his e he
  exact ⟨by omega, .inr (by omega)⟩
 ·simpa using o3
 ·rw [obj_cell o3]
  simp
end
end Go.Proofs.YthlileddhgglnaaGreatDoor
namespace Go.Proofs.YthlileddhgglnaaGreatDoor
open Go.RowKit
set_option maxRecDepth 100000 in
set_option maxHeartbeats 1600000 in
theorem slow_any (b off : Nat) (cap : Array Value) (R : World → Prop) (w : World)
  (h0 : w.cell? ⟨b, off, none⟩ = some (.int .u32 0)) (h1 : w.cell? ⟨b, off + 1, none⟩ = some (.int .i32 0)) (f1 : w.frozen? ⟨b, off + 1, none⟩ = false)
  (hf : Calls Tryz.prog 127 cap (w.setCell ⟨b, off + 1, none⟩ (.int .i32 1)) fun e w' => e = .returned (.tuple #[]) ∧ R w')
  (hR : ∀ w', R w' → w'.cell? ⟨b, off, none⟩ = some (.int .u32 0) ∧ w'.cell? ⟨b, off + 1, none⟩ = some (.int .i32 1) ∧ w'.frozen? ⟨b, off, none⟩ = false ∧ w'.frozen? ⟨b, off + 1, none⟩ = false) :
  Calls Tryz.prog 123 #[.pointer (some ⟨b, off, none⟩), .func (.func 127) #[] cap] w fun e w' => e = .returned (.tuple #[]) ∧
   ∃ w1, R w1 ∧ w' = (w1.drew.setCell ⟨b, off, none⟩ (.int .u32 1)).setCell ⟨b, off + 1, none⟩ (.int .i32 0) := by
 have hl := run_call_load (P := Tryz.prog) Tryz.func142 (by kernel_rfl) (by kernel_rfl) (by kernel_rfl) .u32 (by kernel_rfl) (w := w.setCell ⟨b, off + 1, none⟩ (.int .i32 1)) (a := ⟨b, off, none⟩) (x := 0) ((World.cell?_setCell_other _ ⟨b, off + 1, none⟩ ⟨b, off, none⟩ _ (by simp)).trans h0)
 have hnot : ∀ (x : Bool) (w : World), (Op.unary .not (.bool x)).run Tryz.prog w = .ok (.bool (!x)) w := fun _ _ => rfl
 have hin : ∀ args w, (callFunc 127 args).run Tryz.prog w = .ok (.enter 127 args) w := enters_of Tryz.func127 (by kernel_rfl) rfl
 go_enter_defers Tryz.func123, Tryz.ntmps123
 go_wp2_with (first | (go_at_call 143; refine (lock_free b (off + 1) _ h1 f1).mono ?_; rintro e w' ⟨rfl, rfl⟩) | (go_at_call 122; go_in))
 refine hf.mono ?_
 rintro e w1 ⟨rfl, hr⟩
 obtain ⟨k0, k1, z0, z1⟩ := hR w1 hr
 go_wp2
 refine leaves_cons (f := 145) (args := #[.pointer (some ⟨b, off, none⟩), .bool true]) (by simp) (by simp [go_sem]) ?_
 refine (store_deferred b off (.int .u32 0) .returning _ k0 z0).mono ?_
 rintro e u' w'' ⟨rfl, rfl, rfl⟩
 refine leaves_cons (f := 144) (args := #[.pointer (some ⟨b, off + 1, none⟩)]) (by simp [settle]) (by simp [go_sem]) ?_
 refine (unlock_deferred b (off + 1) _ _ ?_ (by simp [z1])).mono ?_
 ·refine (World.cell?_setCell_other _ ⟨b, off, none⟩ ⟨b, off + 1, none⟩ _ (by simp)).trans ?_
  rw [World.cell?_drew]
  exact k1
 rintro e u' w'' ⟨rfl, rfl, rfl⟩
 exact ⟨_, results_none rfl _ _ _, rfl, w1, hr, rfl⟩
set_option maxRecDepth 100000 in
set_option maxHeartbeats 1600000 in
theorem do_first (b off : Nat) (cap : Array Value) (R : World → Prop) (w : World)
  (h0 : w.cell? ⟨b, off, none⟩ = some (.int .u32 0)) (h1 : w.cell? ⟨b, off + 1, none⟩ = some (.int .i32 0)) (f1 : w.frozen? ⟨b, off + 1, none⟩ = false)
  (hf : Calls Tryz.prog 127 cap (w.setCell ⟨b, off + 1, none⟩ (.int .i32 1)) fun e w' => e = .returned (.tuple #[]) ∧ R w')
  (hR : ∀ w', R w' → w'.cell? ⟨b, off, none⟩ = some (.int .u32 0) ∧ w'.cell? ⟨b, off + 1, none⟩ = some (.int .i32 1) ∧ w'.frozen? ⟨b, off, none⟩ = false ∧ w'.frozen? ⟨b, off + 1, none⟩ = false) :
  Calls Tryz.prog 105 #[.pointer (some ⟨b, off, none⟩), .func (.func 127) #[] cap] w fun e w' => e = .returned (.tuple #[]) ∧
   ∃ w1, R w1 ∧ w' = (w1.drew.setCell ⟨b, off, none⟩ (.int .u32 1)).setCell ⟨b, off + 1, none⟩ (.int .i32 0) := by
 have hl := run_call_load (P := Tryz.prog) Tryz.func142 (by kernel_rfl) (by kernel_rfl) (by kernel_rfl) .u32 (by kernel_rfl) h0
 have hnot : ∀ (x : Bool) (w : World), (Op.unary .not (.bool x)).run Tryz.prog w = .ok (.bool (!x)) w := fun _ _ => rfl
 have cS := slow_any b off cap R w h0 h1 f1 hf hR
 clear hf hR
 go_enter Tryz.func105, Tryz.ntmps105
 go_wp2_with (first | (go_at_call 123; refine cS.mono ?_; rintro e w' ⟨rfl, w1, hw1, rfl⟩) | (go_at_call 122; go_in))
 go_end0
 exact ⟨rfl, w1, hw1, rfl⟩
set_option maxRecDepth 100000 in
set_option maxHeartbeats 1600000 in
theorem do_done (b off : Nat) (fv : Value) (w : World) (h0 : w.cell? ⟨b, off, none⟩ = some (.int .u32 1)) :
  Calls Tryz.prog 105 #[.pointer (some ⟨b, off, none⟩), fv] w fun e w' => e = .returned (.tuple #[]) ∧ w' = w := by
 have hl := run_call_load (P := Tryz.prog) Tryz.func142 (by kernel_rfl) (by kernel_rfl) (by kernel_rfl) .u32 (by kernel_rfl) h0
 have hnot : ∀ (x : Bool) (w : World), (Op.unary .not (.bool x)).run Tryz.prog w = .ok (.bool (!x)) w := fun _ _ => rfl
 go_enter Tryz.func105, Tryz.ntmps105
 go_wp2
 go_end0
 exact ⟨rfl, rfl⟩
end Go.Proofs.YthlileddhgglnaaGreatDoor
