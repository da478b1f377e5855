/-
  The document's own tables: made of a shape; The document's own tables: of any shape; The document's boards: New; The document's boards: New; The document's boards: how far a well's fill may be off; The document's boards: Start; The document's states: what may be in wells and in the tip; Things of a board, looked up by name; The code's wells: how many there are; Layer 11: Start: what may be in each well at first; What the readers of a deck ask of its names and numbers; a right deck has it. No program is named here; Append of what comes in onto a row that the call owns. No program is named here; Layer 17: the code's states: a new one, what is in a well, in the tip, a copy; Plain mathematics of layer 2: what a span's sum, difference, widening answers. No program is named here; Contracts of layer 2: which spans are right, least; Contracts of layer 1's sums and differences; Contracts of layer 2's sums and differences; Layer 17: the code's states: drawing; Layer 17: the code's states: giving; what the statements ask of them; Layer 11: what right decks bear; the statements' decks as boards; Layer 17's boards: the program's and the document's of a deck of numbers; Plain mathematics of stage 17's statements: what may be in wells at first is bounded. No program is named here.
-/
import Derived.Deep.RegionHeld3
import Derived.Deep.QuietTactic
import Derived.BigQuiet
import Derived.KernelRfl
import Derived.Lib.MinMax
import Derived.Test.YtkhaephmpifcmaaChecked
import Derived.Deep.CutRange
import Derived.OwnWalk
import Derived.Laws.OwnMore
import Derived.Deep.AppendLies
import Derived.Maps.AppendAt
import Derived.Laws.Strings2
import Derived.Laws.Slices
import Derived.Test.YtkhaephmpifcmaaY1
import Derived.Test.YtkhaephmpifcmaaY2
import Derived.Test.YtkhaephmpifcmaaY3
import Derived.Test.YtkhaephmpifcmaaY4
namespace Go.Proofs.Ytkhaephmpifcmaa
open Go.RowKit
theorem i64_info : ∃ i, Try.prog.info? 2 = some i ∧ i.zero = some (.int .i64 0) ∧ i.size = 1 ∧ i.bytes = 8 :=
  Go.info_parts (by kernel_rfl)
set_option maxRecDepth 100000 in
set_option maxHeartbeats 16000000 in
theorem r3of_row (a : Addr) (cap : Nat) (l : List Sec) (w : World) (h4 : ∀ i s, l[i]? = some s → s.I ∧ SecAt w (a.add (i * 6)) s) (hr : rightS l = true) (cR : ∀ w', B w w' → Calls Try.prog 60 #[.slice (some a) l.length cap] w' fun e w'' => e = .returned (.bool true) ∧ Q w' w'') :
    Calls Try.prog 40 #[.slice (some a) l.length cap] w fun e w' => ∃ p, e = .returned (.tuple #[p, .bool true]) ∧ Held (fun w => RTab w p (slAll l)) w.heap.size w'.heap.size w' ∧ B w w' := by
  obtain ⟨hl1, hl4, hok⟩ := right_all hr
  obtain ⟨i0, hi0, hz0, hz1, hz2⟩ := i64_info
  have hbnd := slAll_bnd hok
  have hnum := slAll_len l hok
  have hsum : hsumI l l.length ≤ 60000 := by
    unfold rightS at hr
    simp only [Bool.and_eq_true, decide_eq_true_eq] at hr
    exact hr.2
  have hlen : (slAll l).length ≤ 600 := by omega
  clear hr hnum hsum
  go_enter Try.func40, Try.ntmps40
  go_wp2_with fail
  refine (cR _ (B.refl w)).mono ?_
  rintro e W1 ⟨rfl, g1⟩
  replace g1 := g1.b
  clear cR
  go_wp2
  obtain ⟨tL, tH⟩ := table_start W1 w.heap.size 2 151 g1.below.size
  have gF := ((g1.alloc #[.int .i64 0] 2).alloc #[.int .i64 0] 2).alloc #[.slice (some ⟨W1.heap.size, 0, none⟩) 1 1, .slice (some ⟨W1.heap.size + 1, 0, none⟩) 1 1] 151
  generalize ((W1.alloc (.cells #[.int .i64 0] 2)).alloc (.cells #[.int .i64 0] 2)).alloc (.cells #[.slice (some ⟨W1.heap.size, 0, none⟩) 1 1, .slice (some ⟨W1.heap.size + 1, 0, none⟩) 1 1] 151) = WF at *
  obtain ⟨bt, hbt⟩ : ∃ bt, W1.heap.size + 1 + 1 = bt := ⟨_, rfl⟩
  rw [hbt] at tL tH
  try rw [hbt]
  have hLH : W1.heap.size ≠ W1.heap.size + 1 := by omega
  generalize W1.heap.size + 1 = gH0 at *
  generalize W1.heap.size = gL0 at *
  obtain ⟨BB, hBB⟩ : ∃ BB, w.heap.size = BB := ⟨_, rfl⟩
  rw [hBB] at tL tH
  clear g1 hbt
  have H4 := Lib.hid h4
  have HTL := Lib.hid tL
  have HTH := Lib.hid tH
  clear h4 tL tH
  go_loopw [5] (fun i wr => ∃ (k gL cL gH cH : Nat), k ≤ l.length ∧ i = .int .i64 k ∧ Half wr BB bt 0 2 gL cL (lowCells (slAll (l.take k))) ∧ Half wr BB bt 1 2 gH cH (highCells (slAll (l.take k))) ∧ gL ≠ gH ∧ B w wr) (fun i _ => l.length - (intOf i).toNat)
  case atStart => exact ⟨0, gL0, 1, gH0, 1, Nat.zero_le _, rfl, HTL.out, HTH.out, hLH, gF⟩
  case round =>
    clear HTL HTH
    obtain ⟨k, gL, cL, gH, cH, hk, rfl, tL, tH, hLH', gq⟩ := hrel
    by_cases hl : k < l.length
    · have hlB : decide (k < l.length) = true := decide_eq_true hl
      have hlI : (k : Int) < (l.length : Int) := by omega
      have hg := List.getElem?_eq_getElem hl
      obtain ⟨hI, hs⟩ := H4.out k _ hg
      have hsk := hok _ (List.getElem_mem hl)
      have hsplit : slAll (l.take (k + 1)) = slAll (l.take k) ++ slOf l[k] := by
        rw [List.take_add_one, hg, slAll_append]; simp [slAll]
      have hpre : (slAll (l.take (k + 1))).length ≤ 600 := by
        have e : slAll l = slAll (l.take (k + 1)) ++ slAll (l.drop (k + 1)) := by rw [← slAll_append, List.take_append_drop]
        rw [e, List.length_append] at hlen
        omega
      have hbk : ∀ x ∈ slAll (l.take (k + 1)), Bnd x := slAll_bnd (fun s hs => hok s (List.mem_of_mem_take hs))
      rw [hsplit] at hpre hbk
      generalize slAll (l.take k) = MK at *
      generalize l[k] = s at *
      obtain ⟨r, h, a0, b0, a1, b1⟩ := s
      obtain ⟨hh1, hh2⟩ := secOk_h _ hsk
      have hmod := secOk_mod hsk
      have hsl : (slOf ⟨r, h, a0, b0, a1, b1⟩).length = (h / 100).toNat := slOf_len _
      have hget : ∀ j : Nat, j < (h / 100).toNat → (slOf ⟨r, h, a0, b0, a1, b1⟩)[j]? = some (100 * lowA ⟨r, h, a0, b0, a1, b1⟩ (100 * (j : Int)), 100 * highA ⟨r, h, a0, b0, a1, b1⟩ (100 * (j : Int))) := fun j hj => by
        unfold slOf
        rw [List.getElem?_map, List.getElem?_range hj]
        rfl
      have hbnds := fun (t : Int) ht => slice_bounds hsk t ht
      have hsin := fun (t : Int) up => sideOf_in hsk t up
      have hlow : ∀ t : Int, lowA ⟨r, h, a0, b0, a1, b1⟩ t = areaM r (min (sideOf ⟨r, h, a0, b0, a1, b1⟩ t false).1 (sideOf ⟨r, h, a0, b0, a1, b1⟩ (t + 100) false).1) (min (sideOf ⟨r, h, a0, b0, a1, b1⟩ t false).2 (sideOf ⟨r, h, a0, b0, a1, b1⟩ (t + 100) false).2) false := fun _ => rfl
      have hhigh : ∀ t : Int, highA ⟨r, h, a0, b0, a1, b1⟩ t = areaM r (max (sideOf ⟨r, h, a0, b0, a1, b1⟩ t true).1 (sideOf ⟨r, h, a0, b0, a1, b1⟩ (t + 100) true).1) (max (sideOf ⟨r, h, a0, b0, a1, b1⟩ t true).2 (sideOf ⟨r, h, a0, b0, a1, b1⟩ (t + 100) true).2) true := fun _ => rfl
      generalize slOf ⟨r, h, a0, b0, a1, b1⟩ = SL at *
      simp only at hh1 hh2 hmod
      have HK1 := Lib.hid hsplit
      clear hsplit
      go_wp2
      have HL := Lib.hid tL
      have HH := Lib.hid tH
      have HOK := Lib.hid (And.intro hok hbnd)
      have HG := Lib.hid hg
      clear tL tH hok hbnd hg
      obtain ⟨wo, rfl⟩ : ∃ wo : World, wo = wr := ⟨_, rfl⟩
      go_loopw [6] (fun i wr => ∃ (j gL cL gH cH : Nat), j ≤ (h / 100).toNat ∧ i = .int .i64 (100 * (j : Int)) ∧ Half wr BB bt 0 2 gL cL (lowCells (MK ++ SL.take j)) ∧ Half wr BB bt 1 2 gH cH (highCells (MK ++ SL.take j)) ∧ gL ≠ gH ∧ B w wr) (fun i _ => (h / 100).toNat - ((intOf i) / 100).toNat)
      case atStart => exact ⟨0, gL, cL, gH, cH, Nat.zero_le _, rfl, by simpa using HL.out, by simpa using HH.out, hLH', gq⟩
      case round =>
        clear HL HH
        obtain ⟨j, gL, cL, gH, cH, hj, rfl, tL, tH, hLH', gq⟩ := hrel
        obtain ⟨f0, f1, f2, f3, f4, f5⟩ := hs.keepB gq
        simp only at f0 f1 f2 f3 f4 f5
        by_cases hjl : j < (h / 100).toNat
        · have hjB : decide (100 * (j : Int) < h) = true := decide_eq_true (by omega)
          have hgj := hget j hjl
          have hMM : MK ++ SL.take (j + 1) = (MK ++ SL.take j) ++ [(100 * lowA ⟨r, h, a0, b0, a1, b1⟩ (100 * (j : Int)), 100 * highA ⟨r, h, a0, b0, a1, b1⟩ (100 * (j : Int)))] := by
            rw [List.take_add_one, hgj]; simp
          have hMl : (MK ++ SL.take j).length ≤ 599 := by
            rw [List.length_append, List.length_take]
            rw [List.length_append] at hpre
            omega
          have hbM : ∀ x ∈ MK ++ SL.take j, Bnd x := fun x hx => hbk x (by
            rcases List.mem_append.1 hx with h | h
            · exact List.mem_append.2 (.inl h)
            · exact List.mem_append.2 (.inr (List.mem_of_mem_take h)))
          obtain ⟨hb1, hb2, hb3⟩ := table_bnd hbM (MK ++ SL.take j).length
          have HRel := Lib.hid hMM
          clear hMM hgj hbM
          obtain ⟨T, hT⟩ : ∃ T : Int, 100 * (j : Int) = T := ⟨_, rfl⟩
          obtain ⟨n, hn⟩ : ∃ n, (MK ++ SL.take j).length = n := ⟨_, rfl⟩
          have tLl := lowCells_len (MK ++ SL.take j)
          have tHl := highCells_len (MK ++ SL.take j)
          have gLn := lowCells_get (MK ++ SL.take j) n (by omega)
          have gHn := highCells_get (MK ++ SL.take j) n (by omega)
          have snL := lowCells_snoc (MK ++ SL.take j) (100 * lowA ⟨r, h, a0, b0, a1, b1⟩ T, 100 * highA ⟨r, h, a0, b0, a1, b1⟩ T)
          have snH := highCells_snoc (MK ++ SL.take j) (100 * lowA ⟨r, h, a0, b0, a1, b1⟩ T, 100 * highA ⟨r, h, a0, b0, a1, b1⟩ T)
          have snn : ∀ x, ((MK ++ SL.take j) ++ [x]).length = n + 1 := fun x => by rw [List.length_append, List.length_singleton, hn]
          rw [hn] at tLl tHl snL snH hMl hb1 hb2 hb3
          rw [hT]
          rw [hT] at hjB HRel
          generalize MK ++ SL.take j = M at *
          obtain ⟨LO, hLO⟩ : ∃ LO, lowT M n = LO := ⟨_, rfl⟩
          obtain ⟨HI, hHI⟩ : ∃ HI, highT M n = HI := ⟨_, rfl⟩
          rw [hLO] at gLn snL hb1 hb2
          rw [hHI] at gHn snH hb2 hb3
          have hT0 : 0 ≤ T := by omega
          have hT1 : T + 100 ≤ 60000 := by omega
          have iT : I64 T := by unfold I64; omega
          have iT' : I64 (T + 100) := by unfold I64; omega
          have eT : IntKind.i64.wrap (T + 100) = T + 100 := wrapI (by omega) (by omega)
          obtain ⟨hx1, hx2, hx3, hx4⟩ := hbnds T hT0
          obtain ⟨q1, q2, q3, q4⟩ := hsin T false
          obtain ⟨q5, q6, q7, q8⟩ := hsin (T + 100) false
          obtain ⟨v1, v2, v3, v4⟩ := hsin T true
          obtain ⟨v5, v6, v7, v8⟩ := hsin (T + 100) true
          have hlowT := hlow T
          have hhighT := hhigh T
          have s1 := fun w => r3side_any r h a0 b0 a1 b1 T false w hI iT
          have s2 := fun w => r3side_any r h a0 b0 a1 b1 (T + 100) false w hI iT'
          have s3 := fun w => r3side_any r h a0 b0 a1 b1 T true w hI iT
          have s4 := fun w => r3side_any r h a0 b0 a1 b1 (T + 100) true w hI iT'
          generalize lowA ⟨r, h, a0, b0, a1, b1⟩ T = XL at *
          generalize highA ⟨r, h, a0, b0, a1, b1⟩ T = XH at *
          generalize (sideOf ⟨r, h, a0, b0, a1, b1⟩ T false).1 = p1 at *
          generalize (sideOf ⟨r, h, a0, b0, a1, b1⟩ T false).2 = p2 at *
          generalize (sideOf ⟨r, h, a0, b0, a1, b1⟩ (T + 100) false).1 = p3 at *
          generalize (sideOf ⟨r, h, a0, b0, a1, b1⟩ (T + 100) false).2 = p4 at *
          generalize (sideOf ⟨r, h, a0, b0, a1, b1⟩ T true).1 = p5 at *
          generalize (sideOf ⟨r, h, a0, b0, a1, b1⟩ T true).2 = p6 at *
          generalize (sideOf ⟨r, h, a0, b0, a1, b1⟩ (T + 100) true).1 = p7 at *
          generalize (sideOf ⟨r, h, a0, b0, a1, b1⟩ (T + 100) true).2 = p8 at *
          obtain ⟨m1, e1⟩ : ∃ m, min p1 p3 = m := ⟨_, rfl⟩
          obtain ⟨m2, e2⟩ : ∃ m, min p2 p4 = m := ⟨_, rfl⟩
          obtain ⟨m3, e3⟩ : ∃ m, max p5 p7 = m := ⟨_, rfl⟩
          obtain ⟨m4, e4⟩ : ∃ m, max p6 p8 = m := ⟨_, rfl⟩
          rw [e1, e2] at hlowT
          rw [e3, e4] at hhighT
          have cA1 := fun w => r3area_any r m1 m2 false (by omega) (by omega) (by omega) (by omega) w
          have cA2 := fun w => r3area_any r m3 m4 true (by omega) (by omega) (by omega) (by omega) w
          rw [← hlowT] at cA1
          rw [← hhighT] at cA2
          obtain ⟨YL, eYL⟩ : ∃ Y, 100 * XL = Y := ⟨_, rfl⟩
          obtain ⟨YH, eYH⟩ : ∃ Y, 100 * XH = Y := ⟨_, rfl⟩
          obtain ⟨ZL, eZL⟩ : ∃ Z, LO + YL = Z := ⟨_, rfl⟩
          obtain ⟨ZH, eZH⟩ : ∃ Z, HI + YH = Z := ⟨_, rfl⟩
          have wYL : IntKind.i64.wrap YL = YL := wrapI (by omega) (by omega)
          have wYH : IntKind.i64.wrap YH = YH := wrapI (by omega) (by omega)
          have wZL : IntKind.i64.wrap ZL = ZL := wrapI (by omega) (by omega)
          have wZH : IntKind.i64.wrap ZH = ZH := wrapI (by omega) (by omega)
          simp only [eYL, eYH, eZL, eZH] at snL snH HRel
          have hcL := tL.cell
          rw [tLl] at hcL
          have hn600 : n ≤ 600 := by omega
          clear hbnds hsin hlow hhigh hget hsk hlowT hhighT hx1 hx2 hx3 hx4 hb1 hb2 hb3 q1 q2 q3 q4 q5 q6 q7 q8 v1 v2 v3 v4 v5 v6 v7 v8 hpre hbk hlen hMl
          go_wp2_with fail
          refine (s1 _).mono ?_
          rintro e wS ⟨rfl, qS⟩
          replace tL := tL.keepB qS.b
          replace tH := tH.keepB qS.b
          replace gq := gq.trans qS.b
          replace f0 := qS.keep f0
          replace f1 := qS.keep f1
          replace f2 := qS.keep f2
          replace f3 := qS.keep f3
          replace f4 := qS.keep f4
          replace f5 := qS.keep f5
          clear qS
          go_wp2_with fail
          refine (s2 _).mono ?_
          rintro e wS ⟨rfl, qS⟩
          replace tL := tL.keepB qS.b
          replace tH := tH.keepB qS.b
          replace gq := gq.trans qS.b
          replace f0 := qS.keep f0
          replace f1 := qS.keep f1
          replace f2 := qS.keep f2
          replace f3 := qS.keep f3
          replace f4 := qS.keep f4
          replace f5 := qS.keep f5
          clear qS
          have hcc := tL.cell
          rw [tLl] at hcc
          have hff := tL.fz
          have hlo : wS.cell? ⟨gL, n, none⟩ = some (.int .i64 LO) := by have := tL.own.cells rfl n _ gLn; rwa [add0] at this
          have hoA : (wS.drew.alloc (.cells #[.int .i64 ZL] 2)).ownsRow BB 2 1 (.slice (some ⟨gL, 0, none⟩) (n + 1) cL) (n + 1) (lowCells M) := by have := (tL.keepB ((B.refl wS).drew.alloc #[.int .i64 ZL] 2)).own; rwa [tLl] at this
          have hwB : BB ≤ wS.heap.size := by rw [← hBB]; exact gq.below.size
          have hbase : BB ≤ (wS.drew.alloc (.cells #[.int .i64 ZL] 2)).heap.size := by rw [alloc_size]; exact Nat.le_succ_of_le hwB
          have hblt : bt < (wS.drew.alloc (.cells #[.int .i64 ZL] 2)).heap.size := by rw [alloc_size]; exact Nat.lt_succ_of_lt tL.blt
          have hbne : some bt ≠ some gL := fun e => tL.ne (Option.some.inj e).symm
          have hrr := f0
          have hnn : (n : Int) < (n : Int) + 1 := by omega
          go_wp2_with fail
          refine wp_region_noPanic ?_
          refine wp_region_gate (S := fun w' => w'.cell? ⟨bt, 0, none⟩ = some (.slice (some ⟨gL, 0, none⟩) (n + 1) cL) ∧ w'.cell? ⟨gL, n, none⟩ = some (.int .i64 LO) ∧ w'.cell? (a.add (k * 6)) = some (.bool r) ∧ Q wS w') 27 [(0, 3), (1, 3), (2, 3), (3, 3), (4, 0), (5, 3), (6, 3), (7, 3), (8, 0), (9, 3), (10, 3), (11, 0), (12, 3), (13, 3), (14, 3), (15, 3), (16, 0), (17, 3), (18, 3), (19, 3), (20, 3), (21, 3), (22, 3), (23, 2), (24, 3), (25, 3), (26, 2), (27, 4), (28, 3), (29, 3), (30, 4)] [0, 0, 2, 4, 8, 0, 32, 64, 128, 0, 768, 1024, 0, 0, 12288, 16384, 32768, 0, 0, 393216, 0, 0, 3145728, 4784128, 8388608, 16779264, 33554432, 75497488, 268435455, 536870911, 805306367] [0, 0, 2, 4, 8, 0, 32, 64, 128, 0, 768, 1024, 0, 0, 12288, 16384, 32768, 0, 0, 393216, 0, 0, 3145728, 4784128, 8388608, 16779264, 33554432, 67108880, 1, 268435456, 671088640] [0, 0, 0, 0, 2013265936, 0, 0, 0, 2113932544, 0, 0, 2113931264, 0, 0, 0, 0, 2139160576, 0, 0, 0, 0, 0, 0, 0, 0, 0, 0, 0, 0, 0, 0] (by kernel_rfl) (by kernel_rfl) (fun _ _ _ _ _ h => h) ?_ (fun hH => ?_)
          · exact ⟨(Q.refl wS).drew.keep hcc, (Q.refl wS).drew.keep hlo, (Q.refl wS).drew.keep hrr, (Q.refl wS).drew⟩
          refine wpSeqG_free (d := 59) (v := ?_) rfl rfl (by kernel_rfl) (fun w => ?_) ?_
          rotate_left
          · go_simp <;> with_reducible rfl
          dsimp only [List.set_cons_zero, List.set_cons_succ]
          refine wpSeqG_free (d := 60) (v := ?_) rfl rfl (by kernel_rfl) (fun w => ?_) ?_
          rotate_left
          · go_simp <;> with_reducible rfl
          dsimp only [List.set_cons_zero, List.set_cons_succ]
          refine wpSeqG_free (d := 61) (v := ?_) rfl rfl (by kernel_rfl) (fun w => ?_) ?_
          rotate_left
          · go_simp <;> with_reducible rfl
          dsimp only [List.set_cons_zero, List.set_cons_succ]
          refine wpSeqG_free (d := 62) (v := ?_) rfl rfl (by kernel_rfl) (fun w => ?_) ?_
          rotate_left
          · go_simp <;> with_reducible rfl
          dsimp only [List.set_cons_zero, List.set_cons_succ]
          refine wpSeqG_take (d := 63) (v := ?_) rfl rfl (by kernel_rfl) (fun w hS => ?_) ?_
          rotate_left
          · go_simp <;> with_reducible rfl
          dsimp only [List.set_cons_zero, List.set_cons_succ]
          refine wpSeqG_free (d := 64) (v := ?_) rfl rfl (by kernel_rfl) (fun w => ?_) ?_
          rotate_left
          · go_simp <;> with_reducible rfl
          dsimp only [List.set_cons_zero, List.set_cons_succ]
          refine wpSeqG_free (d := 65) (v := ?_) rfl rfl (by kernel_rfl) (fun w => ?_) ?_
          rotate_left
          · go_simp <;> with_reducible rfl
          dsimp only [List.set_cons_zero, List.set_cons_succ]
          refine wpSeqG_free (d := 66) (v := ?_) rfl rfl (by kernel_rfl) (fun w => ?_) ?_
          rotate_left
          · go_simp <;> with_reducible rfl
          dsimp only [List.set_cons_zero, List.set_cons_succ]
          refine wpSeqG_take (d := 67) (v := ?_) rfl rfl (by kernel_rfl) (fun w hS => ?_) ?_
          rotate_left
          · go_simp <;> with_reducible rfl
          dsimp only [List.set_cons_zero, List.set_cons_succ]
          refine wpSeqG_free (d := 68) (v := ?_) rfl rfl (by kernel_rfl) (fun w => ?_) ?_
          rotate_left
          · go_simp <;> with_reducible rfl
          dsimp only [List.set_cons_zero, List.set_cons_succ]
          refine wpSeqG_free (d := 69) (v := ?_) rfl rfl (by kernel_rfl) (fun w => ?_) ?_
          rotate_left
          · go_simp <;> with_reducible rfl
          dsimp only [List.set_cons_zero, List.set_cons_succ]
          refine wpSeqG_take (d := 70) (v := ?_) rfl rfl (by kernel_rfl) (fun w hS => ?_) ?_
          rotate_left
          · go_simp <;> with_reducible rfl
          dsimp only [List.set_cons_zero, List.set_cons_succ]
          refine wpSeqG_free (d := 71) (v := ?_) rfl rfl (by kernel_rfl) (fun w => ?_) ?_
          rotate_left
          · go_simp <;> with_reducible rfl
          dsimp only [List.set_cons_zero, List.set_cons_succ]
          refine wpSeqG_free (d := 72) (v := ?_) rfl rfl (by kernel_rfl) (fun w => ?_) ?_
          rotate_left
          · go_simp <;> with_reducible rfl
          dsimp only [List.set_cons_zero, List.set_cons_succ]
          refine wpSeqG_free (d := 73) (v := ?_) rfl rfl (by kernel_rfl) (fun w => ?_) ?_
          rotate_left
          · go_simp <;> with_reducible rfl
          dsimp only [List.set_cons_zero, List.set_cons_succ]
          refine wpSeqG_free (d := 74) (v := ?_) rfl rfl (by kernel_rfl) (fun w => ?_) ?_
          rotate_left
          · go_simp <;> with_reducible rfl
          dsimp only [List.set_cons_zero, List.set_cons_succ]
          refine wpSeqG_take (d := 75) (v := ?_) rfl rfl (by kernel_rfl) (fun w hS => ?_) ?_
          rotate_left
          · go_simp <;> with_reducible rfl
          dsimp only [List.set_cons_zero, List.set_cons_succ]
          refine wpSeqG_free (d := 76) (v := ?_) rfl rfl (by kernel_rfl) (fun w => ?_) ?_
          rotate_left
          · go_simp <;> with_reducible rfl
          dsimp only [List.set_cons_zero, List.set_cons_succ]
          refine wpSeqG_free (d := 77) (v := ?_) rfl rfl (by kernel_rfl) (fun w => ?_) ?_
          rotate_left
          · go_simp <;> with_reducible rfl
          dsimp only [List.set_cons_zero, List.set_cons_succ]
          refine wpSeqG_free (d := 78) (v := ?_) rfl rfl (by kernel_rfl) (fun w => ?_) ?_
          rotate_left
          · go_simp <;> with_reducible rfl
          dsimp only [List.set_cons_zero, List.set_cons_succ]
          refine wpSeqG_free (d := 79) (v := ?_) rfl rfl (by kernel_rfl) (fun w => ?_) ?_
          rotate_left
          · go_simp <;> with_reducible rfl
          dsimp only [List.set_cons_zero, List.set_cons_succ]
          refine wpSeqG_free (d := 80) (v := ?_) rfl rfl (by kernel_rfl) (fun w => ?_) ?_
          rotate_left
          · go_simp <;> with_reducible rfl
          dsimp only [List.set_cons_zero, List.set_cons_succ]
          refine wpSeqG_free (d := 81) (v := ?_) rfl rfl (by kernel_rfl) (fun w => ?_) ?_
          rotate_left
          · go_simp <;> with_reducible rfl
          dsimp only [List.set_cons_zero, List.set_cons_succ]
          refine wpSeqG_call rfl (by kernel_rfl) (fun K hK => ?_)
          go_simp
          (with_reducible refine (cA1 _).mono ?_)
          rintro e w' ⟨rfl, rfl⟩
          refine hK.out _ _ hH (fun hH => ?_)
          clear hK
          refine wpSeqG_free (d := 83) (v := ?_) rfl rfl (by kernel_rfl) (fun w => ?_) ?_
          rotate_left
          · go_simp <;> with_reducible rfl
          dsimp only [List.set_cons_zero, List.set_cons_succ]
          refine wpSeqG_free (d := 84) (v := ?_) rfl rfl (by kernel_rfl) (fun w => ?_) ?_
          rotate_left
          · go_simp <;> with_reducible rfl
          dsimp only [List.set_cons_zero, List.set_cons_succ]
          refine wpSeqG_call rfl (by kernel_rfl) (fun K hK => ?_)
          go_simp
          refine hK.out _ _ ?_ (fun hH => ?_)
          · exact ⟨((Q.refl wS).drew.alloc _ _).keep hcc, ((Q.refl wS).drew.alloc _ _).keep hlo, ((Q.refl wS).drew.alloc _ _).keep hrr, (Q.refl wS).drew.alloc _ _⟩
          clear hK
          refine wpSeqG_gate rfl (by kernel_rfl) (fun K hK => ?_)
          refine wp_append_lies _ _ _ 48 rfl BB 2 i0 (.int .i64 0) 1 8 (by kernel_rfl) hi0 hz0 hz1 hz2 rfl (by omega) _ _ _ rfl hoA ⟨wS.heap.size, 0, none⟩ 1 1 [.int .i64 ZL] rfl rfl (news_plain rfl) (by intro u hu; rw [List.mem_singleton.1 hu]; rfl) (by omega) (by unfold maxLen; omega) (by omega) hbase _ rfl ?_
          intro gN cN wN hownN hgrowN hatN hltN
          have y0 : wN.cell? ⟨bt, 0, none⟩ = some (.slice (some ⟨gL, 0, none⟩) (n + 1) cL) := (World.cell?_of_block (a := ⟨bt, 0, none⟩) (hgrowN.block bt hblt hbne)).trans (((Q.refl wS).drew.alloc _ _).keep hcc)
          have y1 : wN.frozen? ⟨bt, 0, none⟩ = false := (World.frozen?_of_block (a := ⟨bt, 0, none⟩) (hgrowN.block bt hblt hbne)).trans ((((Q.refl wS).drew.alloc _ _).marks _).trans hff)
          try simp only [Act.put, List.setIfInBounds_toArray, List.set_cons_zero, List.set_cons_succ]
          refine hK.out _ _ ?_
          clear hK
          refine wpSeqG_free (d := 87) (v := ?_) rfl rfl (by kernel_rfl) (fun w => ?_) ?_
          rotate_left
          · go_simp <;> with_reducible rfl
          dsimp only [List.set_cons_zero, List.set_cons_succ]
          refine wpSeqG_free (d := 88) (v := ?_) rfl rfl (by kernel_rfl) (fun w => ?_) ?_
          rotate_left
          · go_simp <;> with_reducible rfl
          dsimp only [List.set_cons_zero, List.set_cons_succ]
          refine wpSeqG_gate rfl (by kernel_rfl) (fun K hK => ?_)
          go_simp
          refine hK.out _ _ ?_
          clear hK
          refine wpSeqG_done ?_
          refine NoPanic.normal ?_
          have hel : (lowCells (M ++ [(YL, YH)])).length = n + 1 + 1 := by rw [lowCells_len, snn]
          have hoB : wN.ownsRow BB 2 1 (.slice (some ⟨gN, 0, none⟩) (lowCells (M ++ [(YL, YH)])).length cN) (lowCells (M ++ [(YL, YH)])).length (lowCells (M ++ [(YL, YH)])) := by rw [hel, snL]; exact hownN
          have hgb : gN ≠ bt := by
            rcases hatN with e | e
            · have e' : gL = gN := Option.some.inj e
              rw [← e']; exact tL.ne
            · rw [e]; exact Nat.ne_of_gt hblt
          have hg2 : gN ≠ gH := by
            rcases hatN with e | e
            · have e' : gL = gN := Option.some.inj e
              rw [← e']; exact hLH'
            · have hz := alloc_size wS (.cells #[.int .i64 ZL] 2)
              have hy := tH.glt.2
              rw [e]
              intro hq
              have hq' : (wS.alloc (.cells #[.int .i64 ZL] 2)).heap.size = gH := hq
              omega
          have tX := Half.put (off := 0) hoB y0 y1 hgb tL.lo
          rw [hel] at tX
          have tY := ((tH.keepB ((B.refl wS).drew.alloc #[.int .i64 ZL] 2)).grown hgrowN (Ne.symm hLH') (Ne.symm tL.ne)).other 0 (by omega) (.slice (some ⟨gN, 0, none⟩) (n + 1 + 1) cN)
          have gN1 := ((gq.drew.alloc #[.int .i64 ZL] 2).grownBy hgrowN (fun b hb => by rw [hBB, ← Option.some.inj hb]; exact tL.glt.1)).setCell (p := ⟨bt, 0, none⟩) (by rw [hBB]; exact tL.lo) (.slice (some ⟨gN, 0, none⟩) (n + 1 + 1) cN)
          clear f0 f1 f2 f3 f4 f5
          obtain ⟨f0, f1, f2, f3, f4, f5⟩ := hs.keepB gN1
          simp only at f0 f1 f2 f3 f4 f5
          generalize wN.setCell ⟨bt, 0, none⟩ (.slice (some ⟨gN, 0, none⟩) (n + 1 + 1) cN) = wX at *
          clear hnn hownN hgrowN hatN hltN y0 y1 hoA hbase hblt hbne hcc hff hlo hrr hwB hoB hel hgb
          have tL := tX
          have tH := tY
          have gq := gN1
          have hLH' := hg2
          clear tX tY gN1 hg2
          obtain ⟨gN0, eg⟩ : ∃ g, g = gN := ⟨_, rfl⟩
          obtain ⟨cN0, ec⟩ : ∃ g, g = cN := ⟨_, rfl⟩
          subst eg ec
          go_wp2_with fail
          refine (s3 _).mono ?_
          rintro e wS ⟨rfl, qS⟩
          replace tL := tL.keepB qS.b
          replace tH := tH.keepB qS.b
          replace gq := gq.trans qS.b
          replace f0 := qS.keep f0
          replace f1 := qS.keep f1
          replace f2 := qS.keep f2
          replace f3 := qS.keep f3
          replace f4 := qS.keep f4
          replace f5 := qS.keep f5
          clear qS
          go_wp2_with fail
          refine (s4 _).mono ?_
          rintro e wS ⟨rfl, qS⟩
          replace tL := tL.keepB qS.b
          replace tH := tH.keepB qS.b
          replace gq := gq.trans qS.b
          replace f0 := qS.keep f0
          replace f1 := qS.keep f1
          replace f2 := qS.keep f2
          replace f3 := qS.keep f3
          replace f4 := qS.keep f4
          replace f5 := qS.keep f5
          clear qS
          have hcc := tH.cell
          rw [tHl] at hcc
          have hff := tH.fz
          have hlo : wS.cell? ⟨gH, n, none⟩ = some (.int .i64 HI) := by have := tH.own.cells rfl n _ gHn; rwa [add0] at this
          have hoA : (wS.drew.alloc (.cells #[.int .i64 ZH] 2)).ownsRow BB 2 1 (.slice (some ⟨gH, 0, none⟩) (n + 1) cH) (n + 1) (highCells M) := by have := (tH.keepB ((B.refl wS).drew.alloc #[.int .i64 ZH] 2)).own; rwa [tHl] at this
          have hwB : BB ≤ wS.heap.size := by rw [← hBB]; exact gq.below.size
          have hbase : BB ≤ (wS.drew.alloc (.cells #[.int .i64 ZH] 2)).heap.size := by rw [alloc_size]; exact Nat.le_succ_of_le hwB
          have hblt : bt < (wS.drew.alloc (.cells #[.int .i64 ZH] 2)).heap.size := by rw [alloc_size]; exact Nat.lt_succ_of_lt tH.blt
          have hbne : some bt ≠ some gH := fun e => tH.ne (Option.some.inj e).symm
          have hrr := f0
          have hnn : (n : Int) < (n : Int) + 1 := by omega
          go_wp2_with fail
          refine wp_region_noPanic ?_
          refine wp_region_gate (S := fun w' => w'.cell? ⟨bt, 1, none⟩ = some (.slice (some ⟨gH, 0, none⟩) (n + 1) cH) ∧ w'.cell? ⟨gH, n, none⟩ = some (.int .i64 HI) ∧ w'.cell? (a.add (k * 6)) = some (.bool r) ∧ Q wS w') 27 [(0, 3), (1, 3), (2, 3), (3, 3), (4, 0), (5, 3), (6, 3), (7, 3), (8, 0), (9, 3), (10, 3), (11, 0), (12, 3), (13, 3), (14, 3), (15, 3), (16, 0), (17, 3), (18, 3), (19, 3), (20, 3), (21, 3), (22, 3), (23, 2), (24, 3), (25, 3), (26, 2), (27, 4), (28, 3), (29, 3), (30, 4)] [0, 0, 2, 4, 8, 0, 32, 64, 128, 0, 768, 1024, 0, 0, 12288, 16384, 32768, 0, 0, 393216, 0, 0, 3145728, 4784128, 8388608, 16779264, 33554432, 75497488, 268435455, 536870911, 805306367] [0, 0, 2, 4, 8, 0, 32, 64, 128, 0, 768, 1024, 0, 0, 12288, 16384, 32768, 0, 0, 393216, 0, 0, 3145728, 4784128, 8388608, 16779264, 33554432, 67108880, 1, 268435456, 671088640] [0, 0, 0, 0, 2013265936, 0, 0, 0, 2113932544, 0, 0, 2113931264, 0, 0, 0, 0, 2139160576, 0, 0, 0, 0, 0, 0, 0, 0, 0, 0, 0, 0, 0, 0] (by kernel_rfl) (by kernel_rfl) (fun _ _ _ _ _ h => h) ?_ (fun hH => ?_)
          · exact ⟨(Q.refl wS).drew.keep hcc, (Q.refl wS).drew.keep hlo, (Q.refl wS).drew.keep hrr, (Q.refl wS).drew⟩
          refine wpSeqG_free (d := 108) (v := ?_) rfl rfl (by kernel_rfl) (fun w => ?_) ?_
          rotate_left
          · go_simp <;> with_reducible rfl
          dsimp only [List.set_cons_zero, List.set_cons_succ]
          refine wpSeqG_free (d := 109) (v := ?_) rfl rfl (by kernel_rfl) (fun w => ?_) ?_
          rotate_left
          · go_simp <;> with_reducible rfl
          dsimp only [List.set_cons_zero, List.set_cons_succ]
          refine wpSeqG_free (d := 110) (v := ?_) rfl rfl (by kernel_rfl) (fun w => ?_) ?_
          rotate_left
          · go_simp <;> with_reducible rfl
          dsimp only [List.set_cons_zero, List.set_cons_succ]
          refine wpSeqG_free (d := 111) (v := ?_) rfl rfl (by kernel_rfl) (fun w => ?_) ?_
          rotate_left
          · go_simp <;> with_reducible rfl
          dsimp only [List.set_cons_zero, List.set_cons_succ]
          refine wpSeqG_take (d := 112) (v := ?_) rfl rfl (by kernel_rfl) (fun w hS => ?_) ?_
          rotate_left
          · go_simp <;> with_reducible rfl
          dsimp only [List.set_cons_zero, List.set_cons_succ]
          refine wpSeqG_free (d := 113) (v := ?_) rfl rfl (by kernel_rfl) (fun w => ?_) ?_
          rotate_left
          · go_simp <;> with_reducible rfl
          dsimp only [List.set_cons_zero, List.set_cons_succ]
          refine wpSeqG_free (d := 114) (v := ?_) rfl rfl (by kernel_rfl) (fun w => ?_) ?_
          rotate_left
          · go_simp <;> with_reducible rfl
          dsimp only [List.set_cons_zero, List.set_cons_succ]
          refine wpSeqG_free (d := 115) (v := ?_) rfl rfl (by kernel_rfl) (fun w => ?_) ?_
          rotate_left
          · go_simp <;> with_reducible rfl
          dsimp only [List.set_cons_zero, List.set_cons_succ]
          refine wpSeqG_take (d := 116) (v := ?_) rfl rfl (by kernel_rfl) (fun w hS => ?_) ?_
          rotate_left
          · go_simp <;> with_reducible rfl
          dsimp only [List.set_cons_zero, List.set_cons_succ]
          refine wpSeqG_free (d := 117) (v := ?_) rfl rfl (by kernel_rfl) (fun w => ?_) ?_
          rotate_left
          · go_simp <;> with_reducible rfl
          dsimp only [List.set_cons_zero, List.set_cons_succ]
          refine wpSeqG_free (d := 118) (v := ?_) rfl rfl (by kernel_rfl) (fun w => ?_) ?_
          rotate_left
          · go_simp <;> with_reducible rfl
          dsimp only [List.set_cons_zero, List.set_cons_succ]
          refine wpSeqG_take (d := 119) (v := ?_) rfl rfl (by kernel_rfl) (fun w hS => ?_) ?_
          rotate_left
          · go_simp <;> with_reducible rfl
          dsimp only [List.set_cons_zero, List.set_cons_succ]
          refine wpSeqG_free (d := 120) (v := ?_) rfl rfl (by kernel_rfl) (fun w => ?_) ?_
          rotate_left
          · go_simp <;> with_reducible rfl
          dsimp only [List.set_cons_zero, List.set_cons_succ]
          refine wpSeqG_free (d := 121) (v := ?_) rfl rfl (by kernel_rfl) (fun w => ?_) ?_
          rotate_left
          · go_simp <;> with_reducible rfl
          dsimp only [List.set_cons_zero, List.set_cons_succ]
          refine wpSeqG_free (d := 122) (v := ?_) rfl rfl (by kernel_rfl) (fun w => ?_) ?_
          rotate_left
          · go_simp <;> with_reducible rfl
          dsimp only [List.set_cons_zero, List.set_cons_succ]
          refine wpSeqG_free (d := 123) (v := ?_) rfl rfl (by kernel_rfl) (fun w => ?_) ?_
          rotate_left
          · go_simp <;> with_reducible rfl
          dsimp only [List.set_cons_zero, List.set_cons_succ]
          refine wpSeqG_take (d := 124) (v := ?_) rfl rfl (by kernel_rfl) (fun w hS => ?_) ?_
          rotate_left
          · go_simp <;> with_reducible rfl
          dsimp only [List.set_cons_zero, List.set_cons_succ]
          refine wpSeqG_free (d := 125) (v := ?_) rfl rfl (by kernel_rfl) (fun w => ?_) ?_
          rotate_left
          · go_simp <;> with_reducible rfl
          dsimp only [List.set_cons_zero, List.set_cons_succ]
          refine wpSeqG_free (d := 126) (v := ?_) rfl rfl (by kernel_rfl) (fun w => ?_) ?_
          rotate_left
          · go_simp <;> with_reducible rfl
          dsimp only [List.set_cons_zero, List.set_cons_succ]
          refine wpSeqG_free (d := 127) (v := ?_) rfl rfl (by kernel_rfl) (fun w => ?_) ?_
          rotate_left
          · go_simp <;> with_reducible rfl
          dsimp only [List.set_cons_zero, List.set_cons_succ]
          refine wpSeqG_free (d := 128) (v := ?_) rfl rfl (by kernel_rfl) (fun w => ?_) ?_
          rotate_left
          · go_simp <;> with_reducible rfl
          dsimp only [List.set_cons_zero, List.set_cons_succ]
          refine wpSeqG_free (d := 129) (v := ?_) rfl rfl (by kernel_rfl) (fun w => ?_) ?_
          rotate_left
          · go_simp <;> with_reducible rfl
          dsimp only [List.set_cons_zero, List.set_cons_succ]
          refine wpSeqG_free (d := 130) (v := ?_) rfl rfl (by kernel_rfl) (fun w => ?_) ?_
          rotate_left
          · go_simp <;> with_reducible rfl
          dsimp only [List.set_cons_zero, List.set_cons_succ]
          refine wpSeqG_call rfl (by kernel_rfl) (fun K hK => ?_)
          go_simp
          (with_reducible refine (cA2 _).mono ?_)
          rintro e w' ⟨rfl, rfl⟩
          refine hK.out _ _ hH (fun hH => ?_)
          clear hK
          refine wpSeqG_free (d := 132) (v := ?_) rfl rfl (by kernel_rfl) (fun w => ?_) ?_
          rotate_left
          · go_simp <;> with_reducible rfl
          dsimp only [List.set_cons_zero, List.set_cons_succ]
          refine wpSeqG_free (d := 133) (v := ?_) rfl rfl (by kernel_rfl) (fun w => ?_) ?_
          rotate_left
          · go_simp <;> with_reducible rfl
          dsimp only [List.set_cons_zero, List.set_cons_succ]
          refine wpSeqG_call rfl (by kernel_rfl) (fun K hK => ?_)
          go_simp
          refine hK.out _ _ ?_ (fun hH => ?_)
          · exact ⟨((Q.refl wS).drew.alloc _ _).keep hcc, ((Q.refl wS).drew.alloc _ _).keep hlo, ((Q.refl wS).drew.alloc _ _).keep hrr, (Q.refl wS).drew.alloc _ _⟩
          clear hK
          refine wpSeqG_gate rfl (by kernel_rfl) (fun K hK => ?_)
          refine wp_append_lies _ _ _ 48 rfl BB 2 i0 (.int .i64 0) 1 8 (by kernel_rfl) hi0 hz0 hz1 hz2 rfl (by omega) _ _ _ rfl hoA ⟨wS.heap.size, 0, none⟩ 1 1 [.int .i64 ZH] rfl rfl (news_plain rfl) (by intro u hu; rw [List.mem_singleton.1 hu]; rfl) (by omega) (by unfold maxLen; omega) (by omega) hbase _ rfl ?_
          intro gN cN wN hownN hgrowN hatN hltN
          have y0 : wN.cell? ⟨bt, 1, none⟩ = some (.slice (some ⟨gH, 0, none⟩) (n + 1) cH) := (World.cell?_of_block (a := ⟨bt, 1, none⟩) (hgrowN.block bt hblt hbne)).trans (((Q.refl wS).drew.alloc _ _).keep hcc)
          have y1 : wN.frozen? ⟨bt, 1, none⟩ = false := (World.frozen?_of_block (a := ⟨bt, 1, none⟩) (hgrowN.block bt hblt hbne)).trans ((((Q.refl wS).drew.alloc _ _).marks _).trans hff)
          try simp only [Act.put, List.setIfInBounds_toArray, List.set_cons_zero, List.set_cons_succ]
          refine hK.out _ _ ?_
          clear hK
          refine wpSeqG_free (d := 136) (v := ?_) rfl rfl (by kernel_rfl) (fun w => ?_) ?_
          rotate_left
          · go_simp <;> with_reducible rfl
          dsimp only [List.set_cons_zero, List.set_cons_succ]
          refine wpSeqG_free (d := 137) (v := ?_) rfl rfl (by kernel_rfl) (fun w => ?_) ?_
          rotate_left
          · go_simp <;> with_reducible rfl
          dsimp only [List.set_cons_zero, List.set_cons_succ]
          refine wpSeqG_gate rfl (by kernel_rfl) (fun K hK => ?_)
          go_simp
          refine hK.out _ _ ?_
          clear hK
          refine wpSeqG_done ?_
          refine NoPanic.normal ?_
          have hel : (highCells (M ++ [(YL, YH)])).length = n + 1 + 1 := by rw [highCells_len, snn]
          have hoB : wN.ownsRow BB 2 1 (.slice (some ⟨gN, 0, none⟩) (highCells (M ++ [(YL, YH)])).length cN) (highCells (M ++ [(YL, YH)])).length (highCells (M ++ [(YL, YH)])) := by rw [hel, snH]; exact hownN
          have hgb : gN ≠ bt := by
            rcases hatN with e | e
            · have e' : gH = gN := Option.some.inj e
              rw [← e']; exact tH.ne
            · rw [e]; exact Nat.ne_of_gt hblt
          have hg2 : gN ≠ gN0 := by
            rcases hatN with e | e
            · have e' : gH = gN := Option.some.inj e
              rw [← e']; exact Ne.symm hLH'
            · have hz := alloc_size wS (.cells #[.int .i64 ZH] 2)
              have hy := tL.glt.2
              rw [e]
              intro hq
              have hq' : (wS.alloc (.cells #[.int .i64 ZH] 2)).heap.size = gN0 := hq
              omega
          have tX := Half.put (off := 1) hoB y0 y1 hgb tH.lo
          rw [hel] at tX
          have tY := ((tL.keepB ((B.refl wS).drew.alloc #[.int .i64 ZH] 2)).grown hgrowN (hLH') (Ne.symm tH.ne)).other 1 (by omega) (.slice (some ⟨gN, 0, none⟩) (n + 1 + 1) cN)
          have gN1 := ((gq.drew.alloc #[.int .i64 ZH] 2).grownBy hgrowN (fun b hb => by rw [hBB, ← Option.some.inj hb]; exact tH.glt.1)).setCell (p := ⟨bt, 1, none⟩) (by rw [hBB]; exact tH.lo) (.slice (some ⟨gN, 0, none⟩) (n + 1 + 1) cN)
          clear f0 f1 f2 f3 f4 f5
          obtain ⟨f0, f1, f2, f3, f4, f5⟩ := hs.keepB gN1
          simp only at f0 f1 f2 f3 f4 f5
          generalize wN.setCell ⟨bt, 1, none⟩ (.slice (some ⟨gN, 0, none⟩) (n + 1 + 1) cN) = wX at *
          clear hnn hownN hgrowN hatN hltN y0 y1 hoA hbase hblt hbne hcc hff hlo hrr hwB hoB hel hgb
          have HTL := Lib.hid tY
          have HTH := Lib.hid tX
          clear tX tY tL tH f0 f1 f2 f3 f4 f5 snL snH gLn gHn tLl tHl hcL cA1 cA2 s1 s2 s3 s4
          go_wp2
          go_roundw
          case rel => exact ⟨j + 1, gN0, cN0, gN, cN, by omega, by go_num, by rw [HRel.out]; exact HTL.out, by rw [HRel.out]; exact HTH.out, Ne.symm hg2, gN1⟩
          case measure => simp [intOf]; omega
        · have hjB : decide (100 * (j : Int) < h) = false := decide_eq_false (by omega)
          obtain rfl : j = (h / 100).toNat := by omega
          rw [← hsl, List.take_length] at tL tH
          have HL := Lib.hid tL
          have HH := Lib.hid tH
          clear tL tH
          go_wp2
          go_roundw
          case rel => exact ⟨k + 1, gL, cL, gH, cH, by omega, by go_num, by rw [HK1.out]; exact HL.out, by rw [HK1.out]; exact HH.out, hLH', gq⟩
          case measure => simp [intOf]; omega
    · have hlB : decide (k < l.length) = false := decide_eq_false hl
      obtain rfl : k = l.length := by omega
      rw [List.take_length] at tL tH
      have R := rtab_held tL tH
      rw [← hBB] at R
      have HR := Lib.hid R
      clear R tL tH hok hbnd H4
      go_wp2
      go_ret2
      exact ⟨_, rfl, HR.out, gq⟩
end Go.Proofs.Ytkhaephmpifcmaa

namespace Go.Proofs.Ytkhaephmpifcmaa
open Go.RowKit
/-- A table is answered of a shape that may be, none of another one. -/
def OfRes (T : World → Value → List (Int × Int) → Prop) (l : List Sec) (yes no : Value → Value) (w : World) (e : Ending) (w' : World) : Prop :=
  (rightS l = true ∧ ∃ p, e = .returned (yes p) ∧ T w' p (slAll l) ∧ B w w') ∨ (rightS l = false ∧ e = .returned (no (.pointer none)) ∧ B w w')
theorem r3of_held (v : Value) (l : List Sec) (w : World) (hv : IsSecs w v l) :
    Calls Try.prog 40 #[v] w (OfRes (fun w' p L => Held (fun w => RTab w p L) w.heap.size w'.heap.size w') l (fun p => .tuple #[p, .bool true]) (fun p => .tuple #[p, .bool false]) w) := by
  by_cases hr : rightS l = true
  · rcases hv with ⟨rfl, rfl⟩ | ⟨a, cap, rfl, h2, h3, h4⟩
    · exact absurd hr (by decide)
    · have cR : ∀ w', B w w' → Calls Try.prog 60 #[.slice (some a) l.length cap] w' fun e w'' => e = .returned (.bool true) ∧ Q w' w'' := fun w' q => by
        have := r3right_any (.slice (some a) l.length cap) l w' (.inr ⟨a, cap, rfl, h2, h3, fun i s hs => ⟨(h4 i s hs).1, (h4 i s hs).2.keepB q⟩⟩)
        rwa [hr] at this
      exact (r3of_row a cap l w h4 hr cR).mono fun e w' ⟨p, h1, h2, h3⟩ => .inl ⟨hr, p, h1, h2, h3⟩
  · have hr' : rightS l = false := by simpa using hr
    have c := fun w hv => r3right_any v l w hv
    rw [hr'] at c
    have HV := Lib.hid hv
    have HR := Lib.hid hr'
    clear hv hr hr'
    go_enter Try.func40, Try.ntmps40
    go_wp2_with fail
    refine (c _ HV.out).mono ?_
    rintro e W1 ⟨rfl, g1⟩
    go_wp2
    go_ret2
    exact .inr ⟨HR.out, rfl, g1.b⟩
/-- What the laws ask of a table's bounds. -/
structure TBnd (L : List (Int × Int)) : Prop where
  b : ∀ x ∈ L, Bnd x
  n : L.length ≤ 600
theorem TBnd.at {L : List (Int × Int)} (h : TBnd L) (k : Nat) (hk : k ≤ L.length) : 0 ≤ lowT L k ∧ lowT L k ≤ highT L k ∧ highT L k ≤ 24000000000000 := by
  obtain ⟨h1, h2, h3⟩ := table_bnd h.b k
  have := h.n
  refine ⟨h1, h2, ?_⟩
  have : (k : Int) ≤ 600 := by omega
  omega
end Go.Proofs.Ytkhaephmpifcmaa

namespace Go.Proofs.Ytkhaephmpifcmaa
open Go.RowKit
set_option linter.unusedVariables false
/-- Tables in a row that the call owns: one for each of the first i. -/
structure RbL (L : List Rec) (k0 b : Nat) (w : World) (sv : Value) (ps : List Value) (i : Nat) : Prop where
  row : w.ownsRow k0 119 1 sv i ps
  tab : ∀ (j : Nat) r, j < i → L[j]? = some r → ∃ p lo hi, ps[j]? = some (.pointer (some ⟨p, 0, none⟩)) ∧ Held (fun w => RTab w (.pointer (some ⟨p, 0, none⟩)) (slAll r.l)) lo hi w ∧ b < lo ∧ ∀ g, sv.ownBlock = some g → g < lo ∨ hi ≤ g
theorem RbL.start (L : List Rec) (k0 b : Nat) (w : World) : RbL L k0 b w (.slice none 0 0) [] 0 := ⟨World.ownsRow_nil _ _ _ _, fun j r h => by omega⟩
theorem RbL.keepB {L : List Rec} {k0 b i : Nat} {w w' : World} {sv : Value} {ps : List Value} (h : RbL L k0 b w sv ps i) (q : B w w') : RbL L k0 b w' sv ps i :=
  ⟨own_keepBx h.row q, fun j r hj hr => let ⟨p, lo, hi, h1, h2, h3, h4⟩ := h.tab j r hj hr; ⟨p, lo, hi, h1, h2.keepB q, h3, h4⟩⟩
theorem RbL.put {L : List Rec} {k0 b i : Nat} {w w' : World} {sv : Value} {ps : List Value} {cs : Array Value} {t : TypeId} (h : RbL L k0 b w sv ps i) (ho : w.heap[b]? = some (.cells cs t (0, 0))) (ht : t ≠ 119) (q : G (fun k => k = b) w w') : RbL L k0 b w' sv ps i :=
  ⟨own_objG h.row ho ht q, fun j r hj hr => let ⟨p, lo, hi, h1, h2, h3, h4⟩ := h.tab j r hj hr; ⟨p, lo, hi, h1, q.held h2 (fun k h5 h6 e => by omega), h3, h4⟩⟩
theorem ptInfo : (Try.prog.info? 119).map (fun i => (i.zero, i.size, i.bytes)) = some (some (.pointer none), 1, 8) := by kernel_rfl
/-- One table more: made in blocks from lo on, put into the row. -/
theorem RbL.more {L : List Rec} {k0 b i p : Nat} {r : Rec} {w wt wN : World} {sv : Value} {ps : List Value} {gN cN : Nat} (h : RbL L k0 b w sv ps i) (hr : L[i]? = some r) (hb : b < w.heap.size) (q : B w wt)
    (ht : Held (fun w => RTab w (.pointer (some ⟨p, 0, none⟩)) (slAll r.l)) w.heap.size wt.heap.size wt) (qa : B wt (wt.alloc (.cells #[.pointer (some ⟨p, 0, none⟩)] 119)))
    (hown : wN.ownsRow k0 119 1 (.slice (some ⟨gN, 0, none⟩) (i + 1) cN) (i + 1) (ps ++ [.pointer (some ⟨p, 0, none⟩)])) (hgr : (wt.alloc (.cells #[.pointer (some ⟨p, 0, none⟩)] 119)).grownBy wN sv.ownBlock) (hat : sv.ownBlock = some gN ∨ gN = (wt.alloc (.cells #[.pointer (some ⟨p, 0, none⟩)] 119)).heap.size) :
    RbL L k0 b wN (.slice (some ⟨gN, 0, none⟩) (i + 1) cN) (ps ++ [.pointer (some ⟨p, 0, none⟩)]) (i + 1) := by
  have hz1 := q.below.size
  have hz2 := qa.below.size
  have hps : ps.length = i := by have := h.row.1; omega
  have gA : G (fun k => sv.ownBlock = some k) (wt.alloc (.cells #[.pointer (some ⟨p, 0, none⟩)] 119)) wN := (G.refl _ _).grown hgr (fun k hk => .inl hk)
  have hsv : ∀ g, sv.ownBlock = some g → g < w.heap.size := fun g hg => (h.row.lt g hg).2
  refine ⟨hown, fun j r' hj hr' => ?_⟩
  by_cases e : j = i
  · subst e
    obtain rfl : r = r' := Option.some.inj (hr.symm.trans hr')
    refine ⟨p, w.heap.size, wt.heap.size, by rw [List.getElem?_append_right (by omega), hps, Nat.sub_self]; rfl, gA.held (ht.keepB qa) (fun k h5 h6 e => by have := hsv k e; omega), hb, fun g hg => ?_⟩
    obtain rfl : gN = g := Option.some.inj hg
    rcases hat with h9 | h9
    · exact .inl (hsv _ h9)
    · exact .inr (by omega)
  · obtain ⟨p', lo, hi, h1, h2, h3, h4⟩ := h.tab j r' (by omega) hr'
    refine ⟨p', lo, hi, by rw [List.getElem?_append_left (by omega)]; exact h1, gA.held ((h2.keepB q).keepB qa) (fun k h5 h6 e => by have := h4 k e; omega), h3, fun g hg => ?_⟩
    obtain rfl : gN = g := Option.some.inj hg
    rcases hat with h9 | h9
    · exact h4 _ h9
    · have := h2.le
      exact .inr (by omega)
/-- A board of the document in memory. -/
def RBt (d : Dk) (b : Nat) (wv tv fv : Value) (w : World) : Prop :=
  ∃ gw cw gt ct, w.heap[b]? = some (.cells #[wv, tv, fv, .slice gw d.ws.length cw, .slice gt d.ts.length ct] 86 (0, 0)) ∧
    (∀ (i : Nat) r, d.ws[i]? = some r → ∃ p g, gw = some ⟨g, 0, none⟩ ∧ w.cell? ⟨g, i, none⟩ = some (.pointer (some ⟨p, 0, none⟩)) ∧ RTab w (.pointer (some ⟨p, 0, none⟩)) (slAll r.l)) ∧
    (∀ (i : Nat) r, d.ts[i]? = some r → ∃ p g, gt = some ⟨g, 0, none⟩ ∧ w.cell? ⟨g, i, none⟩ = some (.pointer (some ⟨p, 0, none⟩)) ∧ RTab w (.pointer (some ⟨p, 0, none⟩)) (slAll r.l))
theorem RbL.cells {L : List Rec} {k0 b n : Nat} {w : World} {o : Option Addr} {c : Nat} {ps : List Value} (h : RbL L k0 b w (.slice o n c) ps n) (hn : n = L.length) : ∀ (i : Nat) r, L[i]? = some r → ∃ p g, o = some ⟨g, 0, none⟩ ∧ w.cell? ⟨g, i, none⟩ = some (.pointer (some ⟨p, 0, none⟩)) ∧ RTab w (.pointer (some ⟨p, 0, none⟩)) (slAll r.l) := fun i r hr => by
  have hi : i < n := by rw [hn]; exact (List.getElem?_eq_some_iff.1 hr).1
  obtain ⟨p, lo, hi', h1, h2, _⟩ := h.tab i r hi hr
  obtain ⟨g, cap, e, _⟩ := h.row.form (by omega)
  simp only [Value.slice.injEq, true_and] at e
  obtain ⟨rfl, rfl⟩ := e
  have := h.row.cellAt (i * 1) (by omega)
  rw [Nat.mul_one] at this
  exact ⟨p, g, rfl, this.trans h1, h2.now⟩
theorem RbL.cellsAt {L : List Rec} {k0 b n : Nat} {w w' : World} {o : Option Addr} {c : Nat} {ps : List Value} (h : RbL L k0 b w (.slice o n c) ps n) (hn : n = L.length) (hb : ∀ k, b ≤ k → k < w.heap.size → w'.heap[k]? = w.heap[k]?) (hk : b ≤ k0) : ∀ (i : Nat) r, L[i]? = some r → ∃ p g, o = some ⟨g, 0, none⟩ ∧ w'.cell? ⟨g, i, none⟩ = some (.pointer (some ⟨p, 0, none⟩)) ∧ RTab w' (.pointer (some ⟨p, 0, none⟩)) (slAll r.l) := fun i r hr => by
  have hi : i < n := by rw [hn]; exact (List.getElem?_eq_some_iff.1 hr).1
  obtain ⟨p, lo, hi', h1, h2, h3, _⟩ := h.tab i r hi hr
  have hrow := own_on h.row (fun k h1 h2 => hb k (by omega) h2)
  obtain ⟨g, cap, e, _⟩ := hrow.form (by omega)
  simp only [Value.slice.injEq, true_and] at e
  obtain ⟨rfl, rfl⟩ := e
  have := hrow.cellAt (i * 1) (by omega)
  rw [Nat.mul_one] at this
  exact ⟨p, g, rfl, this.trans h1, h2.any w' (fun k h5 h6 => hb k (by omega) (by have := h2.le; omega))⟩
theorem RbL.on {L : List Rec} {k0 b i : Nat} {w w' : World} {sv : Value} {ps : List Value} (h : RbL L k0 b w sv ps i) (hb : ∀ k, b ≤ k → k < w.heap.size → w'.heap[k]? = w.heap[k]?) (hk : b ≤ k0) (hs : w.heap.size ≤ w'.heap.size) : RbL L k0 b w' sv ps i :=
  ⟨own_on h.row (fun k h1 h2 => hb k (by omega) h2), fun j r hj hr => let ⟨p, lo, hi, h1, h2, h3, h4⟩ := h.tab j r hj hr; ⟨p, lo, hi, h1, h2.on hs (fun k h5 h6 => hb k (by omega) (by have := h2.le; omega)), h3, h4⟩⟩
end Go.Proofs.Ytkhaephmpifcmaa

namespace Go.Proofs.Ytkhaephmpifcmaa
open Go.RowKit
set_option linter.unusedVariables false
set_option maxRecDepth 100000 in
set_option maxHeartbeats 4000000 in
theorem r11new_any (wv tv fv : Value) (d : Dk) (w : World) (h : IsDk w wv tv fv d) (hr : rightD d = true) : Calls Try.prog 23 #[.agg #[wv, tv, fv]] w fun e w' => ∃ b, e = .returned (.tuple #[.pointer (some ⟨b, 0, none⟩), .int .i64 0]) ∧ Held (RBt d b wv tv fv) w.heap.size w'.heap.size w' ∧ B w w' := by
  obtain ⟨p8, p4, pW, pT⟩ := right_parts9 hr
  have hWr : ∀ r ∈ d.ws, rightS r.l = true := fun r hm => by
    obtain ⟨i, hi⟩ := List.getElem?_of_mem hm
    exact wareOk_right (apart_at pW hi).1
  have hTr : ∀ r ∈ d.ts, rightS r.l = true := fun r hm => by
    obtain ⟨i, hi⟩ := List.getElem?_of_mem hm
    exact tipOk_right (apart_at pT hi).1
  obtain ⟨ao, ac, bo, bc, co, cc, rfl, rfl, rfl⟩ := h.forms
  have q0 : B w (w.alloc (.cells #[.slice ao d.ws.length ac, .slice bo d.ts.length bc, .slice co d.fs.length cc] 67)) := (B.refl w).alloc _ _
  have oD := obj_new w (.cells #[.slice ao d.ws.length ac, .slice bo d.ts.length bc, .slice co d.fs.length cc] 67)
  have cR := r8deckright_any _ _ _ d _ (h.keepB q0)
  rw [hr] at cR
  have hnot : ∀ (x : Bool) (w : World), (Op.unary .not (.bool x)).run Try.prog w = .ok (.bool (!x)) w := fun _ _ => rfl
  go_enter Try.func23, Try.ntmps23
  go_wp2_with fail
  generalize w.alloc (.cells #[.slice ao d.ws.length ac, .slice bo d.ts.length bc, .slice co d.fs.length cc] 67) = w0 at *
  refine cR.mono ?_
  rintro e w1 ⟨rfl, q1⟩
  have oDa := q1.obj oD
  have k0 := obj_cell oDa 0
  have k1' := obj_cell oDa 1
  have k2' := obj_cell oDa 2
  have qb : B w1 (w1.alloc (.cells #[.slice ao d.ws.length ac, .slice bo d.ts.length bc, .slice co d.fs.length cc, .slice none 0 0, .slice none 0 0] 86)) := (B.refl _).alloc _ _
  have oB1 := obj_new w1 (.cells #[.slice ao d.ws.length ac, .slice bo d.ts.length bc, .slice co d.fs.length cc, .slice none 0 0, .slice none 0 0] 86)
  have oD1 := qb.obj oDa
  have b1 := (q0.trans q1).trans qb
  have hwb : w.heap.size ≤ w1.heap.size := (q0.trans q1).below.size
  have hDb := obj_lt oDa
  clear cR q0 q1 oD qb oDa
  go_wp2_with fail
  generalize w1.alloc (.cells #[.slice ao d.ws.length ac, .slice bo d.ts.length bc, .slice co d.fs.length cc, .slice none 0 0, .slice none 0 0] 86) = W1 at *
  generalize w1.heap.size = b at *
  generalize hDbe : w.heap.size = Db at *
  obtain ⟨k1, hk1⟩ : ∃ k, W1.heap.size = k := ⟨_, rfl⟩
  have hbk := obj_lt oB1
  clear k0 k1' k2'
  go_loopw [5] (fun iv wr => ∃ (i : Nat) (sv : Value) (ps : List Value), i ≤ d.ws.length ∧ iv = .int .i64 i ∧ RbL d.ws k1 b wr sv ps i ∧ wr.heap[b]? = some (.cells #[.slice ao d.ws.length ac, .slice bo d.ts.length bc, .slice co d.fs.length cc, sv, .slice none 0 0] 86 (0, 0)) ∧ G (fun k => k = b) W1 wr) (fun iv _ => d.ws.length + 1 - (intOf iv).toNat)
  case atStart => exact ⟨0, .slice none 0 0, [], Nat.zero_le _, rfl, RbL.start _ _ _ _, oB1, G.refl _ _⟩
  case round =>
    obtain ⟨i, sv, ps, hi, rfl, hL, oBl, hg⟩ := hrel
    obtain ⟨wl, rfl⟩ : ∃ wl : World, wl = wr := ⟨_, rfl⟩
    obtain ⟨so, sc, rfl⟩ := ownsRow_form hL.row
    have oDl := hg.obj (by show ¬ Db = b; omega) oD1
    have d0 := obj_cell oDl 0
    have bl := hg.b b1 (fun i hi => by subst hi; rw [hDbe]; exact hwb)
    by_cases hl : i < d.ws.length
    · have hlB : decide ((i : Int) < (d.ws.length : Int)) = true := decide_eq_true (by omega)
      have hlN : decide (i < d.ws.length) = true := decide_eq_true hl
      have hi0 : (0 : Int) ≤ (i : Int) := by omega
      have hiI : (i : Int) < (d.ws.length : Int) := by omega
      have wk1 : IntKind.i64.wrap ((i : Int) + 1) = (i : Int) + 1 := by rw [IntKind.wrap_i64]; omega
      obtain ⟨xa, xc, hxa, _, _, hrec⟩ := h.ws.at_ hl
      simp only [Value.slice.injEq, true_and] at hxa
      obtain ⟨rfl, rfl⟩ := hxa
      have hr : d.ws[i]? = some d.ws[i] := List.getElem?_eq_getElem hl
      have hok := hWr _ (List.mem_of_getElem? hr)
      generalize d.ws[i] = r at *
      obtain ⟨v, g4, hsv⟩ := hrec.l
      obtain ⟨vo, vn, vc, rfl⟩ := hsv.form
      replace g4 := bl.keep g4
      have cO := r3of_held _ r.l wl (hsv.keepB bl)
      have HL := Lib.hid (And.intro hL (And.intro oBl (And.intro hg (And.intro hr (And.intro hl hok)))))
      clear hL oBl hg hr hl hrec hsv
      go_wp2_with fail
      refine cO.mono ?_
      rintro e wt (⟨_, p0, rfl, ht, qt⟩ | ⟨h0, _⟩)
      · obtain ⟨p, _, _, _, _, rfl, _⟩ := ht.now
        obtain ⟨hL, oBl, hg, hr, hl, _⟩ := HL.out
        have oBt := qt.obj oBl
        have y3 := obj_cell oBt 3
        have qa : B wt (wt.alloc (.cells #[.pointer (some ⟨p, 0, none⟩)] 119)) := (B.refl _).alloc _ _
        have hownA := own_keepBx (own_keepBx hL.row qt) qa
        have oBa := qa.obj oBt
        have hbA : k1 ≤ (wt.alloc (.cells #[.pointer (some ⟨p, 0, none⟩)] 119)).heap.size := by have h1 := hg.size; have h2 := qt.below.size; have h3 := qa.below.size; omega
        have hfar := farF2 oBa hownA (by decide)
        obtain ⟨i0, hi0', hz0, hz1, hz2⟩ := info_of ptInfo
        have hl1 : i + 1 ≤ maxLen := by unfold maxLen; omega
        have hl2 : (i + 1) * 8 ≤ 140737488355328 := by omega
        have HA := Lib.hid (And.intro oBa (And.intro qa (And.intro qt (And.intro ht hownA))))
        clear hL oBl hg hr hl oBt qa ht qt cO bl
        go_wp2_with (at_builtin; refine wpList_append_lies _ rfl _ _ 84 rfl k1 119 i0 (.pointer none) 1 8 Try.underlying84 hi0' hz0 hz1 hz2 rfl (by omega) _ i ps rfl hownA ⟨wt.heap.size, 0, none⟩ 1 1 [.pointer (some ⟨p, 0, none⟩)] rfl rfl (news_plain rfl) (by simp [Value.oneCell']) (by omega) hl1 hl2 hbA _ rfl ?_; intro gN cN w9 hownN hgrowN hatN hltN; have oB9 := obj_grown hgrowN oBa hfar; have y9 := obj_cell oB9 3; have z9 := obj_free oB9 3)
        obtain ⟨hL, oBl, hg, hr, hl, _⟩ := HL.out
        obtain ⟨_, qa, qt, ht, _⟩ := HA.out
        have hM := hL.more hr (obj_lt oBl) qt ht qa hownN hgrowN hatN
        have gp : G (fun k => k = b) w9 (w9.setCell ⟨b, 3, none⟩ (.slice (some ⟨gN, 0, none⟩) (i + 1) cN)) := one_own _ _ _ _
        have hM2 := hM.put oB9 (by decide) gp
        have oB10 : (w9.setCell ⟨b, 3, none⟩ (.slice (some ⟨gN, 0, none⟩) (i + 1) cN)).heap[b]? = some (.cells #[.slice (some xa) d.ws.length ac, .slice bo d.ts.length bc, .slice co d.fs.length cc, (.slice (some ⟨gN, 0, none⟩) (i + 1) cN), .slice none 0 0] 86 (0, 0)) := by simpa using obj_set oB9 3 (.slice (some ⟨gN, 0, none⟩) (i + 1) cN)
        have hg10 : G (fun k => k = b) W1 (w9.setCell ⟨b, 3, none⟩ (.slice (some ⟨gN, 0, none⟩) (i + 1) cN)) := (((hg.trans (qt.g _)).trans (qa.g _)).grown hgrowN (fun k hk => .inr (by have := (hL.row.lt k hk).1; rw [hk1]; exact this))).trans gp
        have HZ := Lib.hid (And.intro hM2 (And.intro oB10 (And.intro hg10 hl)))
        clear hM hM2 oB10 hg10 gp hL oBl hg hr hl qa qt ht hownN hgrowN hatN hltN oB9 y9 z9 HL HA hownA
        go_roundw
        case rel => exact ⟨i + 1, _, _, by have := HZ.out.2.2.2; omega, by go_num, HZ.out.1, HZ.out.2.1, HZ.out.2.2.1⟩
        case measure => have := HZ.out.2.2.2; simp [intOf]; omega
      · have := HL.out.2.2.2.2.2
        rw [this] at h0
        cases h0
    · have hlB : decide ((i : Int) < (d.ws.length : Int)) = false := decide_eq_false (by omega)
      have hlN : decide (i < d.ws.length) = false := decide_eq_false hl
      obtain rfl : i = d.ws.length := by omega
      obtain ⟨W2, rfl⟩ : ∃ W2 : World, W2 = wl := ⟨_, rfl⟩
      have oD2 := oDl
      have oB2 := oBl
      have b2 := bl
      have hL1 := hL
      obtain ⟨uo, rfl⟩ : ∃ o, o = so := ⟨_, rfl⟩
      obtain ⟨uc, rfl⟩ : ∃ o, o = sc := ⟨_, rfl⟩
      obtain ⟨ps1, rfl⟩ : ∃ o, o = ps := ⟨_, rfl⟩
      obtain ⟨k2, hk2⟩ : ∃ k, W2.heap.size = k := ⟨_, rfl⟩
      have hk12 : k1 ≤ k2 := by have := hg.size; omega
      have H1 := Lib.hid (And.intro hL1 oBl)
      clear hL oDl oBl bl hg hL1
      have d1 := obj_cell oD2 1
      go_wp2_with fail
      clear hlB hlN hl hi d0
      go_loopw [8] (fun iv wr => ∃ (i : Nat) (sv : Value) (ps : List Value), i ≤ d.ts.length ∧ iv = .int .i64 i ∧ RbL d.ts k2 b wr sv ps i ∧ wr.heap[b]? = some (.cells #[.slice ao d.ws.length ac, .slice bo d.ts.length bc, .slice co d.fs.length cc, .slice uo d.ws.length uc, sv] 86 (0, 0)) ∧ G (fun k => k = b) W2 wr) (fun iv _ => d.ts.length + 1 - (intOf iv).toNat)
      case atStart => exact ⟨0, .slice none 0 0, [], Nat.zero_le _, rfl, RbL.start _ _ _ _, oB2, G.refl _ _⟩
      case round =>
        obtain ⟨i, sv, ps, hi, rfl, hL, oBl, hg⟩ := hrel
        obtain ⟨wl, rfl⟩ : ∃ wl : World, wl = wr := ⟨_, rfl⟩
        obtain ⟨so, sc, rfl⟩ := ownsRow_form hL.row
        have oDl := hg.obj (by show ¬ Db = b; omega) oD2
        have d0 := obj_cell oDl 1
        have bl := hg.b b2 (fun i hi => by subst hi; rw [hDbe]; exact hwb)
        by_cases hl : i < d.ts.length
        · have hlB : decide ((i : Int) < (d.ts.length : Int)) = true := decide_eq_true (by omega)
          have hlN : decide (i < d.ts.length) = true := decide_eq_true hl
          have hi0 : (0 : Int) ≤ (i : Int) := by omega
          have hiI : (i : Int) < (d.ts.length : Int) := by omega
          have wk1 : IntKind.i64.wrap ((i : Int) + 1) = (i : Int) + 1 := by rw [IntKind.wrap_i64]; omega
          obtain ⟨xa, xc, hxa, _, _, hrec⟩ := h.ts.at_ hl
          simp only [Value.slice.injEq, true_and] at hxa
          obtain ⟨rfl, rfl⟩ := hxa
          have hr : d.ts[i]? = some d.ts[i] := List.getElem?_eq_getElem hl
          have hok := hTr _ (List.mem_of_getElem? hr)
          generalize d.ts[i] = r at *
          obtain ⟨v, g4, hsv⟩ := hrec.l
          obtain ⟨vo, vn, vc, rfl⟩ := hsv.form
          replace g4 := bl.keep g4
          have cO := r3of_held _ r.l wl (hsv.keepB bl)
          have HL := Lib.hid (And.intro hL (And.intro oBl (And.intro hg (And.intro hr (And.intro hl hok)))))
          clear hL oBl hg hr hl hrec hsv
          go_wp2_with fail
          refine cO.mono ?_
          rintro e wt (⟨_, p0, rfl, ht, qt⟩ | ⟨h0, _⟩)
          · obtain ⟨p, _, _, _, _, rfl, _⟩ := ht.now
            obtain ⟨hL, oBl, hg, hr, hl, _⟩ := HL.out
            have oBt := qt.obj oBl
            have y3 := obj_cell oBt 4
            have qa : B wt (wt.alloc (.cells #[.pointer (some ⟨p, 0, none⟩)] 119)) := (B.refl _).alloc _ _
            have hownA := own_keepBx (own_keepBx hL.row qt) qa
            have oBa := qa.obj oBt
            have hbA : k2 ≤ (wt.alloc (.cells #[.pointer (some ⟨p, 0, none⟩)] 119)).heap.size := by have h1 := hg.size; have h2 := qt.below.size; have h3 := qa.below.size; omega
            have hfar := farF2 oBa hownA (by decide)
            obtain ⟨i0, hi0', hz0, hz1, hz2⟩ := info_of ptInfo
            have hl1 : i + 1 ≤ maxLen := by unfold maxLen; omega
            have hl2 : (i + 1) * 8 ≤ 140737488355328 := by omega
            have HA := Lib.hid (And.intro oBa (And.intro qa (And.intro qt (And.intro ht hownA))))
            clear hL oBl hg hr hl oBt qa ht qt cO bl
            go_wp2_with (at_builtin; refine wpList_append_lies _ rfl _ _ 84 rfl k2 119 i0 (.pointer none) 1 8 Try.underlying84 hi0' hz0 hz1 hz2 rfl (by omega) _ i ps rfl hownA ⟨wt.heap.size, 0, none⟩ 1 1 [.pointer (some ⟨p, 0, none⟩)] rfl rfl (news_plain rfl) (by simp [Value.oneCell']) (by omega) hl1 hl2 hbA _ rfl ?_; intro gN cN w9 hownN hgrowN hatN hltN; have oB9 := obj_grown hgrowN oBa hfar; have y9 := obj_cell oB9 4; have z9 := obj_free oB9 4)
            obtain ⟨hL, oBl, hg, hr, hl, _⟩ := HL.out
            obtain ⟨_, qa, qt, ht, _⟩ := HA.out
            have hM := hL.more hr (obj_lt oBl) qt ht qa hownN hgrowN hatN
            have gp : G (fun k => k = b) w9 (w9.setCell ⟨b, 4, none⟩ (.slice (some ⟨gN, 0, none⟩) (i + 1) cN)) := one_own _ _ _ _
            have hM2 := hM.put oB9 (by decide) gp
            have oB10 : (w9.setCell ⟨b, 4, none⟩ (.slice (some ⟨gN, 0, none⟩) (i + 1) cN)).heap[b]? = some (.cells #[.slice ao d.ws.length ac, .slice (some xa) d.ts.length bc, .slice co d.fs.length cc, .slice uo d.ws.length uc, (.slice (some ⟨gN, 0, none⟩) (i + 1) cN)] 86 (0, 0)) := by simpa using obj_set oB9 4 (.slice (some ⟨gN, 0, none⟩) (i + 1) cN)
            have hg10 : G (fun k => k = b) W2 (w9.setCell ⟨b, 4, none⟩ (.slice (some ⟨gN, 0, none⟩) (i + 1) cN)) := (((hg.trans (qt.g _)).trans (qa.g _)).grown hgrowN (fun k hk => .inr (by have := (hL.row.lt k hk).1; rw [hk2]; exact this))).trans gp
            have HZ := Lib.hid (And.intro hM2 (And.intro oB10 (And.intro hg10 hl)))
            clear hM hM2 oB10 hg10 gp hL oBl hg hr hl qa qt ht hownN hgrowN hatN hltN oB9 y9 z9 HL HA hownA
            go_roundw
            case rel => exact ⟨i + 1, _, _, by have := HZ.out.2.2.2; omega, by go_num, HZ.out.1, HZ.out.2.1, HZ.out.2.2.1⟩
            case measure => have := HZ.out.2.2.2; simp [intOf]; omega
          · have := HL.out.2.2.2.2.2
            rw [this] at h0
            cases h0
        · have hlB : decide ((i : Int) < (d.ts.length : Int)) = false := decide_eq_false (by omega)
          have hlN : decide (i < d.ts.length) = false := decide_eq_false hl
          obtain rfl : i = d.ts.length := by omega
          obtain ⟨hL1, _⟩ := H1.out
          have hL1w := hL1.put oB2 (by decide) hg
          have hbl := obj_lt oBl
          have hRB : Held (RBt d b (.slice ao d.ws.length ac) (.slice bo d.ts.length bc) (.slice co d.fs.length cc)) b wl.heap.size wl := ⟨⟨_, _, _, _, oBl, hL1w.cells rfl, hL.cells rfl⟩, Nat.le_refl _, fun w' hb => ⟨_, _, _, _, (hb b (Nat.le_refl _) hbl).trans oBl, hL1w.cellsAt rfl hb (by omega), hL.cellsAt rfl hb (by omega)⟩⟩
          have HZ := Lib.hid (And.intro (hRB.wide hwb (Nat.le_refl _) (Nat.le_refl _)) bl)
          clear hRB hL hL1 hL1w oBl hg bl oDl
          go_wp2
          go_ret2
          exact ⟨b, rfl, by rw [hDbe]; exact HZ.out.1, HZ.out.2⟩
end Go.Proofs.Ytkhaephmpifcmaa

namespace Go.Proofs.Ytkhaephmpifcmaa
open Go.RowKit
set_option linter.unusedVariables false
theorem tolW_first : ∀ (ws : List Wr) (n : ByteArray) (i : Nat) (r : Wr), ws[i]? = some r → (r.n.toList == n.toList) = true → (∀ j r', j < i → ws[j]? = some r' → (r'.n.toList == n.toList) = false) → tolW ws n = r.z
  | [], _, _, _, h, _, _ => by simp at h
  | w :: ws, n, 0, r, h, hb, _ => by
    obtain rfl : w = r := by simpa using h
    unfold tolW
    rw [List.find?_cons]
    simp only [hb]
  | w :: ws, n, i + 1, r, h, hb, hno => by
    have h0 := hno 0 w (by omega) rfl
    have ih := tolW_first ws n i r (by simpa using h) hb (fun j r' hj hr' => hno (j + 1) r' (by omega) (by simpa using hr'))
    unfold tolW at ih ⊢
    rw [List.find?_cons]
    simp only [h0]
    exact ih
theorem tolW_none : ∀ (ws : List Wr) (n : ByteArray), (∀ (j : Nat) r, ws[j]? = some r → (r.n.toList == n.toList) = false) → tolW ws n = 0
  | [], _, _ => rfl
  | w :: ws, n, h => by
    have h0 := h 0 w rfl
    have ih := tolW_none ws n (fun j r hr => h (j + 1) r (by simpa using hr))
    unfold tolW at ih ⊢
    rw [List.find?_cons]
    simp only [h0]
    exact ih
set_option maxRecDepth 100000 in
set_option maxHeartbeats 2000000 in
theorem r11tol_any (d : Dk) (b : Nat) (wv tv fv : Value) (w : World) (hR : RBt d b wv tv fv w) (hD : IsDk w wv tv fv d) (n : ByteArray) (r c : Int) :
    Calls Try.prog 33 #[.pointer (some ⟨b, 0, none⟩), .agg #[.string n, .int .i64 r, .int .i64 c]] w fun e w' => e = .returned (.int .i64 (tolW d.ws n)) ∧ B w w' := by
  obtain ⟨gw, cw, gt, ct, ho, _, _⟩ := hR
  have qa : B w (w.alloc (.cells #[.string n, .int .i64 r, .int .i64 c] 61)) := (B.refl _).alloc _ _
  have oW := obj_new w (.cells #[.string n, .int .i64 r, .int .i64 c] 61)
  obtain ⟨ao, ac, bo, bc, co, cc, rfl, rfl, rfl⟩ := hD.forms
  have hlen := hD.ws.len
  have hD1 := hD.keepB qa
  have y0 := obj_cell (qa.obj ho) 0
  have g0 := obj_cell oW 0
  clear ho oW hD
  go_enter Try.func33, Try.ntmps33
  go_wp2
  generalize w.alloc (.cells #[.string n, .int .i64 r, .int .i64 c] 61) = w1 at *
  generalize w.heap.size = Wb at *
  go_loopw [5] (fun iv wr => ∃ i : Nat, i ≤ d.ws.length ∧ iv = .int .i64 i ∧ (∀ j r, j < i → d.ws[j]? = some r → (r.n.toList == n.toList) = false) ∧ B w1 wr) (fun iv _ => d.ws.length + 1 - (intOf iv).toNat)
  case atStart => exact ⟨0, Nat.zero_le _, rfl, fun j r h => by omega, B.refl _⟩
  case round =>
    obtain ⟨i, hi, rfl, hno, q⟩ := hrel
    obtain ⟨wl, rfl⟩ : ∃ wl : World, wl = wr := ⟨_, rfl⟩
    replace y0 := q.keep y0
    replace g0 := q.keep g0

    by_cases hl : i < d.ws.length
    · have hlB : decide ((i : Int) < (d.ws.length : Int)) = true := decide_eq_true (by omega)
      have hlN : decide (i < d.ws.length) = true := decide_eq_true hl
      have hlI : (i : Int) < (d.ws.length : Int) := by omega
      have hi0 : (0 : Int) ≤ (i : Int) := by omega
      have wk1 : IntKind.i64.wrap ((i : Int) + 1) = (i : Int) + 1 := by rw [IntKind.wrap_i64]; omega
      have hr : d.ws[i]? = some d.ws[i] := List.getElem?_eq_getElem hl
      obtain ⟨a, cap, e1, _, _, hrec⟩ := (hD1.ws.keepB q).at_ hl
      simp only [Value.slice.injEq, true_and] at e1
      obtain ⟨rfl, rfl⟩ := e1
      have t0 := hrec.n
      have tz := hrec.z
      generalize d.ws[i] = rr at *
      cases hb : (rr.n.toList == n.toList) with
      | true =>
        have hb' : (rr.n == n) = true := by rw [beq_ba]; exact hb
        have hz : tolW d.ws n = rr.z := by
          have e := tolW_first d.ws n i rr hr hb hno
          exact e
        have HZ := Lib.hid (And.intro hz q)
        clear hno hrec hr q hD1 hz
        go_wp2_with fail
        go_quiet (fail)
        go_wp2
        go_ret
        exact ⟨by rw [HZ.out.1]; rfl, qa.trans (HZ.out.2.drewN _)⟩
      | false =>
        have hb' : (rr.n == n) = false := by rw [beq_ba]; exact hb
        have hno' : ∀ j r', j < i + 1 → d.ws[j]? = some r' → (r'.n.toList == n.toList) = false := fun j r' hj hr' => by
          by_cases h : j = i
          · subst h
            obtain rfl := Option.some.inj (hr.symm.trans hr')
            exact hb
          · exact hno j r' (by omega) hr'
        have HZ := Lib.hid (And.intro hno' (And.intro q hl))
        clear hno hno' hrec hr q hD1 hl tz
        go_wp2_with fail
        go_quiet (fail)
        go_wp2
        go_roundw
        case rel => exact ⟨i + 1, by have := HZ.out.2.2; omega, by go_num, HZ.out.1, HZ.out.2.1.drewN _⟩
        case measure => have := HZ.out.2.2; simp [intOf]; omega
    · have hlB : decide ((i : Int) < (d.ws.length : Int)) = false := decide_eq_false (by omega)
      have hlN : decide (i < d.ws.length) = false := decide_eq_false hl
      have hz : tolW d.ws n = 0 := tolW_none d.ws n (fun j rr hj => hno j rr (by have := (List.getElem?_eq_some_iff.1 hj).1; omega) hj)
      have HZ := Lib.hid (And.intro hz q)
      clear hno q hD1 hz
      go_wp2
      go_ret
      exact ⟨by rw [HZ.out.1]; rfl, qa.trans HZ.out.2⟩
end Go.Proofs.Ytkhaephmpifcmaa

namespace Go.Proofs.Ytkhaephmpifcmaa
open Go.RowKit
set_option linter.unusedVariables false
theorem spanInfoR : (Try.prog.info? 38).map (fun i => (i.zero, i.size, i.bytes)) = some (some (.agg #[.int .i64 0, .int .i64 0]), 2, 16) := by kernel_rfl
set_option maxRecDepth 100000 in
set_option maxHeartbeats 4000000 in
theorem r11start_any (d : Dk) (b lo hi : Nat) (wv tv fv : Value) (w : World) (hH : Held (RBt d b wv tv fv) lo hi w) (hD : IsDk w wv tv fv d) (hr : rightD d = true) (hf9 : d.fs.length ≤ 1000000) :
    Calls Try.prog 19 #[.pointer (some ⟨b, 0, none⟩)] w fun e w' => ∃ g, e = .returned (.slice (some ⟨g, 0, none⟩) (startD d).length (startD d).length) ∧ w'.ownsRow w.heap.size 38 2 (.slice (some ⟨g, 0, none⟩) (startD d).length (startD d).length) (startD d).length (flatP (startD d)) ∧ B w w' := by
  obtain ⟨p8, p4, pW, pT⟩ := right_parts9 hr
  have hwb := wares_in pW
  have hNA := apart_names pW
  have hcn0 := count_pos d.ws hwb
  have hcn1 := count_le d.ws hwb
  have cC := r8count_any wv tv fv d w hD hwb (by omega)
  obtain ⟨i0, hi0, hz0, hz1, hz2⟩ := info_of spanInfoR
  have hmade := made_spans (countW d.ws).toNat
  have hSD := startD_len d
  obtain ⟨nn, hnn⟩ : ∃ nn, (countW d.ws).toNat = nn := ⟨_, rfl⟩
  have hcI : countW d.ws = (nn : Int) := by omega
  rw [hcI] at cC
  rw [hnn] at hmade hSD
  rw [hSD]
  have hRB : RBt d b wv tv fv w := hH.now
  obtain ⟨gw, cw, gt, ct, oB, _, _⟩ := hRB
  have hDw := hD
  have hHw := hH
  obtain ⟨ao, ac, bo, bc, co, cc, rfl, rfl, rfl⟩ := hD.forms
  have k0 := obj_cell oB 0
  have k1 := obj_cell oB 1
  have k2 := obj_cell oB 2
  have HB := Lib.hid (And.intro hHw hDw)
  have HR := Lib.hid hr
  obtain ⟨cn, hcn⟩ : ∃ cn, d.fs.length = cn := ⟨_, rfl⟩
  obtain ⟨an, han⟩ : ∃ an, d.ws.length = an := ⟨_, rfl⟩
  obtain ⟨bn, hbn⟩ : ∃ bn, d.ts.length = bn := ⟨_, rfl⟩
  rw [hcn] at k2
  rw [han] at k0
  rw [hbn] at k1
  simp only [hcn, han, hbn] at cC HB
  clear hH hD oB hHw hDw hr
  go_enter Try.func19, Try.ntmps19
  go_wp2_with fail
  refine cC.mono ?_
  rintro e w1 ⟨rfl, q1b⟩
  replace k0 := q1b.keep k0
  replace k1 := q1b.keep k1
  replace k2 := q1b.keep k2
  have hs1 := q1b.below.size
  clear cC
  have hb16 : i0.bytes * nn ≤ 281474976710656 := by rw [hz2]; omega
  have hbml : nn ≤ maxLen := by unfold maxLen; omega
  go_wp2_with (at_make; refine wpList_make_full _ rfl _ _ 41 rfl w1.heap.size 38 i0 _ 2 Try.underlying41 hi0 hz0 hz1 .i64 .i64 _ _ nn rfl rfl rfl rfl hb16 hbml (Nat.le_refl _) ?_; intro wm hrow hgrow; have hr2 : wm.ownsRow w1.heap.size 38 2 (.slice (some ⟨w1.heap.size, 0, none⟩) nn nn) nn (flatP (List.replicate nn (0, 0))) := (by rw [← hmade]; exact hrow); have qm := (B.refl w1).grownBy hgrow (fun _ h => by cases h); replace k0 := qm.keep k0; replace k1 := qm.keep k1; replace k2 := qm.keep k2; clear hgrow)
  generalize hgg : w1.heap.size = g at *
  obtain ⟨W, rfl⟩ : ∃ W : World, W = wm := ⟨_, rfl⟩
  have qW := q1b.trans qm
  have hS0 : W.ownsRow g 38 2 (.slice (some ⟨g, 0, none⟩) nn nn) nn (flatP (startF d.ws (List.replicate nn (0, 0)) (d.fs.take 0))) := hr2
  clear hrow hr2 q1b qm hmade
  go_loopw [4] (fun iv wr => ∃ j : Nat, j ≤ cn ∧ iv = .int .i64 j ∧ wr.ownsRow g 38 2 (.slice (some ⟨g, 0, none⟩) nn nn) nn (flatP (startF d.ws (List.replicate nn (0, 0)) (d.fs.take j))) ∧ B w wr ∧ G (fun k => k = g) W wr) (fun iv _ => cn + 1 - (intOf iv).toNat)
  case atStart => exact ⟨0, Nat.zero_le _, rfl, hS0, qW, G.refl _ _⟩
  case round =>
    obtain ⟨j, hj, rfl, hrow, qr, gr⟩ := hrel
    obtain ⟨wl, rfl⟩ : ∃ wl : World, wl = wr := ⟨_, rfl⟩
    have hHl := HB.out.1.keepB qr
    have hDl := HB.out.2.keepB qr
    have hRl : RBt d b _ _ _ wl := hHl.now
    obtain ⟨gw1, cw1, gt1, ct1, oB, _, _⟩ := hRl
    replace k0 : wl.cell? ⟨b, 0, none⟩ = some (.slice ao an ac) := obj_cell oB 0
    replace k1 : wl.cell? ⟨b, 1, none⟩ = some (.slice bo bn bc) := obj_cell oB 1
    replace k2 : wl.cell? ⟨b, 2, none⟩ = some (.slice co cn cc) := obj_cell oB 2
    clear oB
    by_cases hl : j < cn
    · have hlB : decide ((j : Int) < (cn : Int)) = true := decide_eq_true (by omega)
      have hlN : decide (j < cn) = true := decide_eq_true hl
      have hlI : (j : Int) < (cn : Int) := by omega
      have hi0 : (0 : Int) ≤ (j : Int) := by omega
      have wk1 : IntKind.i64.wrap ((j : Int) + 1) = (j : Int) + 1 := by rw [IntKind.wrap_i64]; omega
      have hfi : d.fs[j]? = some d.fs[j] := List.getElem?_eq_getElem (by omega)
      obtain ⟨a, cap, ha, _, _, hfa⟩ := hDl.fs.at_ (i := j) (by omega)
      simp only [Value.slice.injEq] at ha
      obtain ⟨rfl, hx9, rfl⟩ := ha
      clear hx9
      obtain ⟨⟨k, hk, hk0, hk1⟩, hv0, hv1⟩ := right_fill HR.out hfi
      have htk := startF_take d.ws (List.replicate nn (0, 0)) hfi
      generalize d.fs[j] = f at *
      obtain ⟨N, R, C, V⟩ := f
      obtain ⟨f0, f1, f2, f3⟩ := hfa
      simp only at f0 f1 f2 f3 hk hv0 hv1
      have hkW : indexW d.ws 0 N R C = some k := by rw [← indexC_eq _ _ _ _ _ hNA]; exact hk
      obtain ⟨TOL, hTOL⟩ : ∃ TOL, tolW d.ws N = TOL := ⟨_, rfl⟩
      have hT01 : 0 ≤ TOL ∧ TOL ≤ 1000000 := by
        rw [← hTOL]
        unfold tolW
        split
        · rename_i rc hrc
          obtain ⟨ix, hix⟩ := List.getElem?_of_mem (List.mem_of_find?_eq_some hrc)
          have hrcok := (apart_at pW hix).1
          unfold wareOk at hrcok
          simp only [Bool.and_eq_true, inB, decide_eq_true_eq] at hrcok
          exact hrcok.1.2
        · omega
      obtain ⟨kN, hkN⟩ : ∃ kN : Nat, k = (kN : Int) := ⟨k.toNat, by omega⟩
      have hslot : slotF d.ws ⟨N, R, C, V⟩ = kN := by unfold slotF; rw [hk, hkN]; simp
      have hspan : spanF d.ws ⟨N, R, C, V⟩ = (max (V - TOL) 0, V + TOL) := by unfold spanF; rw [hTOL]
      rw [hslot, hspan] at htk
      obtain ⟨MX, hMX⟩ : ∃ MX, max (V - TOL) 0 = MX := ⟨_, rfl⟩
      obtain ⟨PL, hPL⟩ : ∃ PL, V + TOL = PL := ⟨_, rfl⟩
      obtain ⟨MI, hMI⟩ : ∃ MI, V - TOL = MI := ⟨_, rfl⟩
      rw [hMX, hPL] at htk
      rw [hMI] at hMX
      have n1 : IntKind.i64.wrap (V - TOL) = MI := by rw [IntKind.wrap_i64]; omega
      have n2 : IntKind.i64.wrap (V + TOL) = PL := by rw [IntKind.wrap_i64]; omega
      have cI0 := fun w' (q : B wl w') => (r8index_any _ _ _ d N R C w' (hDl.keepB q) hwb (by omega)).mono (fun _ _ h => And.intro h.1 h.2.b)
      have cT0 := fun w' (q : B wl w') => r11tol_any d b _ _ _ w' (hHl.keepB q).now (hDl.keepB q) N R C
      rw [hkW] at cI0
      rw [hTOL] at cT0
      simp only [Option.getD_some, hkN] at cI0
      generalize hasW d.ws N R C = HW at *
      have hkI : (kN : Int) < (nn : Int) := by omega
      have hkI0 : (0 : Int) ≤ (kN : Int) := by omega
      have HY := Lib.hid (And.intro hrow (And.intro qr (And.intro gr (And.intro htk hl))))
      clear hHl hDl hrow qr gr htk hl hk hkW hv0 hv1 hT01 hTOL hkN hslot hspan hPL hMI hfi hk0 hk1
      go_wp2_with fail
      have qx : B wl (wl.alloc (.cells #[.string N, .int .i64 R, .int .i64 C, .int .i64 V] 63)) := (B.refl _).alloc _ _
      have oF := obj_new wl (.cells #[.string N, .int .i64 R, .int .i64 C, .int .i64 V] 63)
      have cI1 := fun w' (q : B (wl.alloc (.cells #[.string N, .int .i64 R, .int .i64 C, .int .i64 V] 63)) w') => cI0 w' (qx.trans q)
      have cT1 := fun w' (q : B (wl.alloc (.cells #[.string N, .int .i64 R, .int .i64 C, .int .i64 V] 63)) w') => cT0 w' (qx.trans q)
      replace k0 := qx.keep k0
      replace k1 := qx.keep k1
      replace k2 := qx.keep k2
      clear cI0 cT0 f0 f1 f2 f3
      generalize (wl.alloc (.cells #[.string N, .int .i64 R, .int .i64 C, .int .i64 V] 63)) = w2 at *
      generalize hFb : wl.heap.size = Fb at *
      have cI := cI1
      have g0 := obj_cell oF 0
      have g1 := obj_cell oF 1
      have g2 := obj_cell oF 2
      have qd : B w2 w2.drew := (B.refl _).drew
      refine wp_region_noPanic ?_
      refine wp_region_seq (S := fun w' => w'.cell? ⟨b, 0, none⟩ = some (.slice ao an ac) ∧ w'.cell? ⟨b, 1, none⟩ = some (.slice bo bn bc) ∧ w'.cell? ⟨b, 2, none⟩ = some (.slice (some a) cn cc) ∧ w'.cell? ⟨Fb, 0, none⟩ = some (.string N) ∧ w'.cell? ⟨Fb, 1, none⟩ = some (.int .i64 R) ∧ w'.cell? ⟨Fb, 2, none⟩ = some (.int .i64 C) ∧ B w2 w') [(0, 0), (1, 0), (2, 0), (3, 0), (4, 0), (5, 0), (6, 2), (7, 0), (8, 0), (9, 0), (10, 0), (11, 0)] [0, 1, 2, 4, 0, 16, 40, 64, 128, 128, 511, 2047] [0, 1, 2, 4, 0, 16, 40, 64, 128, 128, 256, 512] (by kernel_rfl) (by kernel_rfl) (fun _ _ _ _ _ h => h) ?_ (fun hH => ?_)
      · exact ⟨qd.keep k0, qd.keep k1, qd.keep k2, qd.keep g0, qd.keep g1, qd.keep g2, qd⟩
      refine wpSeq_take (d := 34) (v := ?_) rfl rfl (by kernel_rfl) (fun w hS => ?_) ?_
      rotate_left
      · go_simp <;> with_reducible rfl
      dsimp only [List.set_cons_zero, List.set_cons_succ]
      refine wpSeq_take (d := 35) (v := ?_) rfl rfl (by kernel_rfl) (fun w hS => ?_) ?_
      rotate_left
      · go_simp <;> with_reducible rfl
      dsimp only [List.set_cons_zero, List.set_cons_succ]
      refine wpSeq_take (d := 36) (v := ?_) rfl rfl (by kernel_rfl) (fun w hS => ?_) ?_
      rotate_left
      · go_simp <;> with_reducible rfl
      dsimp only [List.set_cons_zero, List.set_cons_succ]
      refine wpSeq_take (d := 37) (v := ?_) rfl rfl (by kernel_rfl) (fun w hS => ?_) ?_
      rotate_left
      · go_simp <;> with_reducible rfl
      dsimp only [List.set_cons_zero, List.set_cons_succ]
      refine wpSeq_take (d := 38) (v := ?_) rfl rfl (by kernel_rfl) (fun w hS => ?_) ?_
      rotate_left
      · go_simp <;> with_reducible rfl
      dsimp only [List.set_cons_zero, List.set_cons_succ]
      refine wpSeq_take (d := 39) (v := ?_) rfl rfl (by kernel_rfl) (fun w hS => ?_) ?_
      rotate_left
      · go_simp <;> with_reducible rfl
      dsimp only [List.set_cons_zero, List.set_cons_succ]
      refine wpSeq_call rfl (by kernel_rfl) (fun K hK => ?_)
      go_simp
      (with_reducible refine (cI _ hH.2.2.2.2.2.2).mono ?_)
      rintro e w' ⟨rfl, hq⟩
      refine hK.out _ _ ?_ (fun hH => ?_)
      · exact ⟨hq.keep (hH.1), hq.keep (hH.2.1), hq.keep (hH.2.2.1), hq.keep (hH.2.2.2.1), hq.keep (hH.2.2.2.2.1), hq.keep (hH.2.2.2.2.2.1), (hH.2.2.2.2.2.2).trans hq⟩
      clear hK
      refine wpSeq_take (d := 33) (v := ?_) rfl rfl (by kernel_rfl) (fun w hS => ?_) ?_
      rotate_left
      · go_simp <;> with_reducible rfl
      dsimp only [List.set_cons_zero, List.set_cons_succ]
      refine wpSeq_take (d := 41) (v := ?_) rfl rfl (by kernel_rfl) (fun w hS => ?_) ?_
      rotate_left
      · go_simp <;> with_reducible rfl
      dsimp only [List.set_cons_zero, List.set_cons_succ]
      refine wpSeq_take (d := 42) (v := ?_) rfl rfl (by kernel_rfl) (fun w hS => ?_) ?_
      rotate_left
      · go_simp <;> with_reducible rfl
      dsimp only [List.set_cons_zero, List.set_cons_succ]
      refine wpSeq_take (d := 6) (v := ?_) rfl rfl (by kernel_rfl) (fun w hS => ?_) ?_
      rotate_left
      · go_simp <;> with_reducible rfl
      dsimp only [List.set_cons_zero, List.set_cons_succ]
      refine wpSeq_take (d := 7) (v := ?_) rfl rfl (by kernel_rfl) (fun w hS => ?_) ?_
      rotate_left
      · go_simp <;> with_reducible rfl
      dsimp only [List.set_cons_zero, List.set_cons_succ]
      refine wpSeq_done ?_
      refine NoPanic.normal ?_
      obtain ⟨w3, rfl⟩ : ∃ w3 : World, w3 = w' := ⟨_, rfl⟩
      have hB2 : B w2 w3 := hH.2.2.2.2.2.2
      replace g0 := hB2.keep g0
      replace g1 := hB2.keep g1
      replace g2 := hB2.keep g2
      have g3 := obj_cell (hB2.obj oF) 3
      have cT := cT1 _ hB2
      clear hH cI cI1 cT1 k0 k1 k2 qd
      go_wp2_with fail
      refine cT.mono ?_
      rintro e w4 ⟨rfl, q4⟩
      replace g0 := q4.keep g0
      replace g3 := q4.keep g3
      clear cT g1 g2
      obtain ⟨hrow, qr, gr, htk, hl⟩ := HY.out
      have hrow3 := own_keepBx hrow ((qx.trans hB2).trans q4)
      have y0 := hrow3.cellAt (kN * 2) (by omega)
      have y1 := hrow3.cellAt (kN * 2 + 1) (by omega)
      have z0 := hrow3.frozenAt (kN * 2)
      have z1 := hrow3.frozenAt (kN * 2 + 1)
      have hSl : (startF d.ws (List.replicate nn (0, 0)) (d.fs.take j)).length = nn := by rw [startF_len, List.length_replicate]
      obtain ⟨s0, hs0⟩ : ∃ s, (startF d.ws (List.replicate nn (0, 0)) (d.fs.take j))[kN]? = some s := ⟨_, List.getElem?_eq_getElem (by omega)⟩
      obtain ⟨p0, p1⟩ := flatP_get _ _ _ hs0
      rw [p0] at y0
      rw [p1] at y1
      obtain ⟨r1, e1⟩ := hrow3.stored (kN * 2) (.int .i64 MX)
      obtain ⟨r2, e2⟩ := r1.stored (kN * 2 + 1) (.int .i64 PL)
      rw [flatP_set _ _ _ _ (by omega), ← htk] at r2
      have q9 : B w ((w4.setCell ⟨g, kN * 2, none⟩ (.int .i64 MX)).setCell ⟨g, kN * 2 + 1, none⟩ (.int .i64 PL)) := (B.setCell (p := ⟨g, kN * 2 + 1, none⟩) (B.setCell (p := ⟨g, kN * 2, none⟩) (qr.trans ((qx.trans hB2).trans q4)) hs1 _) hs1 _)
      have g9 : G (fun k => k = g) W ((w4.setCell ⟨g, kN * 2, none⟩ (.int .i64 MX)).setCell ⟨g, kN * 2 + 1, none⟩ (.int .i64 PL)) := (G.setCell (S := fun k => k = g) (p := ⟨g, kN * 2 + 1, none⟩) (G.setCell (S := fun k => k = g) (p := ⟨g, kN * 2, none⟩) (gr.trans (((qx.trans hB2).trans q4).g _)) (.inl rfl) _) (.inl rfl) _)
      have HZ := Lib.hid (And.intro r2 (And.intro q9 (And.intro g9 hl)))
      clear r1 r2 e1 e2 q9 g9 hrow qr gr htk hl hrow3 hs0 p0 p1 HY hSl
      go_wp2
      go_roundw
      case rel => exact ⟨j + 1, by have := HZ.out.2.2.2; omega, by go_num, HZ.out.1, HZ.out.2.1, HZ.out.2.2.1⟩
      case measure => have := HZ.out.2.2.2; simp [intOf]; omega
    · have hlB : decide ((j : Int) < (cn : Int)) = false := decide_eq_false (by omega)
      have hlN : decide (j < cn) = false := decide_eq_false hl
      obtain rfl : j = cn := by omega
      rw [List.take_of_length_le (by omega)] at hrow
      have HZ := Lib.hid (And.intro hrow qr)
      clear hrow qr gr hHl hDl
      go_wp2
      go_ret
      have hst : startF d.ws (List.replicate nn (0, 0)) d.fs = startD d := by unfold startD; rw [hnn]
      exact ⟨g, rfl, by rw [← hst]; exact own_low HZ.out.1 hs1, HZ.out.2⟩
end Go.Proofs.Ytkhaephmpifcmaa

namespace Go.Proofs.Ytkhaephmpifcmaa
open Go.RowKit
set_option linter.unusedVariables false
theorem r11in_span (v : Int) (w : World) : Calls Try.prog 30 #[.int .i64 v, .int .i64 0, .int .i64 1000000000] w fun x w' => x = .returned (.bool (inB v 0 1000000000)) ∧ w = w' := by
  unfold inB
  cases k1 : decide (0 ≤ v)
  · go_enter Try.func30, Try.ntmps30
    go_wp2
    go_ret
    exact ⟨by simp [*], rfl⟩
  · cases k2 : decide (v ≤ 1000000000)
    all_goals
      go_enter Try.func30, Try.ntmps30
      go_wp2
      go_ret
      exact ⟨by simp [*], rfl⟩
theorem own_lt {w : World} {base e size n c : Nat} {a : Addr} {xs : List Value} (h : w.ownsRow base e size (.slice (some a) n c) n xs) : a.block < w.heap.size := by
  rcases h.2 with ⟨h0, _⟩ | ⟨g, cap, cur, h0, hb, hg, _⟩
  · simp at h0
  · simp only [Value.slice.injEq, Option.some.injEq] at h0
    rw [h0.1]
    exact obj_lt hg
set_option maxHeartbeats 2000000 in
theorem r11track_any (d : Dk) (b lo hi : Nat) (wv tv fv : Value) (w : World) (hH : Held (RBt d b wv tv fv) lo hi w) (hD : IsDk w wv tv fv d) (hr : rightD d = true) (hf9 : d.fs.length ≤ 1000000) :
    Calls Try.prog 10 #[.pointer (some ⟨b, 0, none⟩)] w fun e w' => ∃ v, e = .returned v ∧ StT 43 w' w.heap.size w'.heap.size v (startD d) (0, 0) ∧ B w w' := by
  have cS := r11start_any d b lo hi wv tv fv w hH hD hr hf9
  generalize startD d = S at *
  obtain ⟨N, hN⟩ : ∃ N, S.length = N := ⟨_, rfl⟩
  rw [hN] at cS
  have HN := Lib.hid hN
  clear hN hH hD
  go_enter Try.func10, Try.ntmps10
  go_wp2_with fail
  refine cS.mono ?_
  rintro e w1 ⟨g, rfl, hrow, q⟩
  have HX := Lib.hid (And.intro hrow q)
  clear cS hrow q
  go_wp2
  go_ret
  obtain ⟨hrow, q⟩ := HX.out
  have hN := HN.out
  have hg := own_lt hrow
  simp only at hg
  have qa : B w1 (w1.alloc (.cells #[.slice (some ⟨g, 0, none⟩) N N, .int .i64 0, .int .i64 0] 43)) := (B.refl _).alloc _ _
  have ob := obj_new w1 (.cells #[.slice (some ⟨g, 0, none⟩) N N, .int .i64 0, .int .i64 0] 43)
  have hs : (w1.alloc (.cells #[.slice (some ⟨g, 0, none⟩) N N, .int .i64 0, .int .i64 0] 43)).heap.size = w1.heap.size + 1 := by simp
  refine ⟨_, rfl, ⟨w1.heap.size, some ⟨g, 0, none⟩, N, rfl, q.below.size, by rw [hs]; omega, Nat.le_refl _, by rw [hN]; exact ob, by rw [hN]; exact own_keepBx hrow qa, fun a e => ?_, fun a e => ?_⟩, q.trans qa⟩
  · obtain rfl := Option.some.inj e; rw [hs]; simp only; omega
  · obtain rfl := Option.some.inj e; simp only; omega
set_option maxRecDepth 100000 in
set_option maxHeartbeats 4000000 in
/-- Drawing: no such well, numbers that may not be, or too little. -/
theorem r11draw_any (w : World) (lo hi : Nat) (v : Value) (W : List Sp2) (T : Sp2) (i x e M : Int) (h : StT 43 w lo hi v W T) (hw : WB W T M) (hM : M ≤ 4000000000000000000) (hI : I64 i) (hx : I64 x) (he : I64 e) (hn : W.length ≤ 1000000) :
    Calls Try.prog 12 #[v, .int .i64 i, .int .i64 x, .int .i64 e] w fun r w' => r = .returned (.bool (drawOk W i x e)) ∧ StT 43 w' lo hi v (drawW W i x e) (drawT W T i x e) ∧ G (Rng lo hi) w w' := by
  obtain ⟨b, o, c, rfl, hA⟩ := h
  have cX := fun w => r11in_span x w
  have cE := fun w => r11in_span e w
  obtain ⟨N, hN⟩ : ∃ N, W.length = N := ⟨_, rfl⟩
  have k0 := obj_cell hA.obj 0
  rw [hN] at k0 hn
  by_cases h0 : i < 0
  · have hiB : decide (i < 0) = true := decide_eq_true h0
    have hs : hasS W i = false := by unfold hasS; rw [decide_eq_false (by omega)]; rfl
    have hok : drawOk W i x e = false := by unfold drawOk; simp [*]
    have HA := Lib.hid hA
    clear hA
    go_enter Try.func12, Try.ntmps12
    go_wp2
    go_ret
    exact ⟨by first | (rw [hok]; rfl) | rfl, by rw [drawW_no hok, drawT_no hok]; exact ⟨_, _, _, rfl, HA.out⟩, G.refl _ _⟩
  have hiB : decide (i < 0) = false := decide_eq_false h0
  by_cases h1 : (N : Int) ≤ i
  · have hlB : decide ((N : Int) ≤ i) = true := decide_eq_true h1
    have hs : hasS W i = false := by unfold hasS; rw [decide_eq_false (show ¬ i < (W.length : Int) by omega), Bool.and_false]
    have hok : drawOk W i x e = false := by unfold drawOk; simp [*]
    have HA := Lib.hid hA
    clear hA
    go_enter Try.func12, Try.ntmps12
    go_wp2
    go_ret
    exact ⟨by first | (rw [hok]; rfl) | rfl, by rw [drawW_no hok, drawT_no hok]; exact ⟨_, _, _, rfl, HA.out⟩, G.refl _ _⟩
  have hlB : decide ((N : Int) ≤ i) = false := decide_eq_false h1
  have hs : hasS W i = true := by unfold hasS; simp only [Bool.and_eq_true, decide_eq_true_eq]; omega
  cases hbx : inB x 0 1000000000 with
  | false =>
    rw [hbx] at cX
    have hok : drawOk W i x e = false := by unfold drawOk; simp [*]
    have HA := Lib.hid hA
    clear hA
    go_enter Try.func12, Try.ntmps12
    go_wp2_with fail
    refine (cX _).mono ?_
    rintro e9 wS ⟨rfl, rfl⟩
    go_wp2
    go_ret
    exact ⟨by first | (rw [hok]; rfl) | rfl, by rw [drawW_no hok, drawT_no hok]; exact ⟨_, _, _, rfl, HA.out⟩, G.refl _ _⟩
  | true =>
    rw [hbx] at cX
    cases hbe : inB e 0 1000000000 with
    | false =>
      rw [hbe] at cE
      have hok : drawOk W i x e = false := by unfold drawOk; simp [*]
      have HA := Lib.hid hA
      clear hA
      go_enter Try.func12, Try.ntmps12
      go_wp2_with fail
      refine (cX _).mono ?_
      rintro e9 wS ⟨rfl, rfl⟩
      go_wp2_with fail
      refine (cE _).mono ?_
      rintro e9 wS ⟨rfl, rfl⟩
      go_wp2
      go_ret
      exact ⟨by first | (rw [hok]; rfl) | rfl, by rw [drawW_no hok, drawT_no hok]; exact ⟨_, _, _, rfl, HA.out⟩, G.refl _ _⟩
    | true =>
      rw [hbe] at cE
      have hx9 : 0 ≤ x ∧ x ≤ 1000000000 := by unfold inB at hbx; simpa using hbx
      have he9 : 0 ≤ e ∧ e ≤ 1000000000 := by unfold inB at hbe; simpa using hbe
      by_cases hl : x + e ≤ (getS W i).1
      · have hlD : decide (x + e ≤ (getS W i).1) = true := decide_eq_true hl
        obtain ⟨i0, hlt, hg⟩ := hasS_ix hs
        obtain ⟨g, rfl, g1, g2, g3, f0, f1, z0, z1⟩ := hA.at_ hg
        have hok : drawOk W i x e = true := by unfold drawOk; simp [*]
        obtain ⟨a1, a2, a3, a4, a5⟩ := hw.at_ hs
        have k1 := obj_cell hA.obj 1
        have k2 := obj_cell hA.obj 2
        have y1 := obj_free hA.obj 1
        have y2 := obj_free hA.obj 2
        obtain ⟨k, hk⟩ : ∃ k : Nat, i = (k : Int) := ⟨i.toNat, by omega⟩
        subst hk
        rw [show ((k : Int)).toNat = k by omega] at f0 f1 z0 z1 hlt
        have hW : drawW W (k : Int) x e = W.set k ((getS W (k : Int)).1 - (x + e), (getS W (k : Int)).2 - lessS x e) := by unfold drawW; rw [if_pos hok]; rfl
        have hT : drawT W T (k : Int) x e = (T.1 + lessS x e, T.2 + x + e) := by unfold drawT; rw [if_pos hok]
        obtain ⟨t0, t1⟩ := T
        generalize getS W (k : Int) = X at *
        obtain ⟨x0, x1⟩ := X
        simp only at k1 k2 f0 f1 a1 a2 a3 a4 a5 hW hT hl
        obtain ⟨xe, hxe⟩ : ∃ z, x + e = z := ⟨_, rfl⟩
        have w1 : IntKind.i64.wrap (x + e) = xe := by rw [hxe]; exact wrapI (by omega) (by omega)
        obtain ⟨xm, hxm⟩ : ∃ z, x - e = z := ⟨_, rfl⟩
        have w2 : IntKind.i64.wrap (x - e) = xm := by rw [hxm]; exact wrapI (by omega) (by omega)
        obtain ⟨ls, hls⟩ : ∃ z, max xm 0 = z := ⟨_, rfl⟩
        have hls2 : lessS x e = ls := by unfold lessS; rw [hxm]; exact hls
        have hlb : 0 ≤ ls ∧ ls ≤ 1000000000 := by omega
        obtain ⟨u0, hu0⟩ : ∃ z, x0 - xe = z := ⟨_, rfl⟩
        have w3 : IntKind.i64.wrap (x0 - xe) = u0 := by rw [hu0]; exact wrapI (by omega) (by omega)
        obtain ⟨u1, hu1⟩ : ∃ z, x1 - ls = z := ⟨_, rfl⟩
        have w4 : IntKind.i64.wrap (x1 - ls) = u1 := by rw [hu1]; exact wrapI (by omega) (by omega)
        obtain ⟨v0, hv0⟩ : ∃ z, t0 + ls = z := ⟨_, rfl⟩
        have w5 : IntKind.i64.wrap (t0 + ls) = v0 := by rw [hv0]; exact wrapI (by omega) (by omega)
        obtain ⟨v1, hv1⟩ : ∃ z, t1 + x = z := ⟨_, rfl⟩
        have w6 : IntKind.i64.wrap (t1 + x) = v1 := by rw [hv1]; exact wrapI (by omega) (by omega)
        obtain ⟨v2, hv2⟩ : ∃ z, v1 + e = z := ⟨_, rfl⟩
        have w7 : IntKind.i64.wrap (v1 + e) = v2 := by rw [hv2]; exact wrapI (by omega) (by omega)
        rw [hxe, hls2, hu0, hu1] at hW
        rw [hls2, hv0, hv1, hv2] at hT
        have hnI : (k : Int) < (N : Int) := by omega
        have hk0 : (0 : Int) ≤ (k : Int) := by omega
        have hlB : decide ((N : Int) ≤ (k : Int)) = false := decide_eq_false (by omega)
        have hiB : decide ((k : Int) < 0) = false := decide_eq_false (by omega)
        have dl : decide (x0 < xe) = false := decide_eq_false (by omega)
        have hgb : ¬ g = b := g3
        have hbg : ¬ b = g := fun e => g3 e.symm
        have HA := Lib.hid (And.intro hA (And.intro hlt (And.intro hW (And.intro hT (And.intro hok (And.intro g1 g2))))))
        have hst : ¬ (k * 2 = k * 2 + 1) := by omega
        clear hA hlt hW hT hok hg hw hI hx he i0 hs a1 a2 a3 a4 a5 hlb hls2 hxe hxm hu0 hu1 hv0 hv1 hv2 g1 g2 g3
        go_enter Try.func12, Try.ntmps12
        go_wp2_with fail
        refine (cX _).mono ?_
        rintro e9 wS ⟨rfl, rfl⟩
        go_wp2_with fail
        refine (cE _).mono ?_
        rintro e9 wS ⟨rfl, rfl⟩
        go_wp2_with fail
        refine wp_region_noPanic ?_
        refine wp_region_gate (S := fun w' => w'.cell? ⟨b, 0, none⟩ = some (.slice (some ⟨g, 0, none⟩) N c) ∧ w'.cell? ⟨b, 1, none⟩ = some (.int .i64 t0) ∧ w'.cell? ⟨b, 2, none⟩ = some (.int .i64 t1) ∧ w'.cell? ⟨g, k * 2, none⟩ = some (.int .i64 x0) ∧ w'.cell? ⟨g, k * 2 + 1, none⟩ = some (.int .i64 x1) ∧ w'.frozen? ⟨g, k * 2, none⟩ = false ∧ w'.frozen? ⟨g, k * 2 + 1, none⟩ = false ∧ w'.frozen? ⟨b, 1, none⟩ = false ∧ w'.frozen? ⟨b, 2, none⟩ = false) 29 [(0, 3), (1, 3), (2, 3), (3, 0), (4, 3), (5, 3), (6, 3), (7, 3), (8, 0), (9, 3), (10, 3), (11, 3), (12, 0), (13, 3), (14, 3), (15, 3), (16, 3), (17, 3), (18, 3), (19, 3), (20, 0), (21, 3), (22, 3), (23, 3), (24, 0), (25, 3), (26, 3), (27, 3), (28, 3), (29, 4)] [0, 1, 2, 4, 0, 0, 32, 64, 128, 0, 768, 1024, 2048, 0, 0, 24576, 36864, 0, 131072, 262144, 524288, 0, 3145728, 4194304, 8388608, 0, 50331648, 67174400, 268435455, 536870911] [0, 1, 2, 4, 0, 0, 32, 64, 128, 0, 768, 1024, 2048, 0, 0, 24576, 36864, 0, 131072, 262144, 524288, 0, 3145728, 4194304, 8388608, 0, 50331648, 67174400, 24, 402653184] [0, 0, 0, 805306376, 0, 0, 0, 0, 939597056, 0, 0, 0, 939593728, 0, 0, 0, 0, 0, 0, 0, 1037041664, 0, 0, 0, 1023410176, 0, 0, 0, 0, 0] (by kernel_rfl) (by kernel_rfl) (fun _ _ _ _ _ h => h) ?_ (fun hH => ?_)
        · exact ⟨k0, k1, k2, f0, f1, z0, z1, y1, y2⟩
        refine wpSeqG_free (d := 49) (v := ?_) rfl rfl (by kernel_rfl) (fun w => ?_) ?_
        rotate_left
        · go_simp <;> with_reducible rfl
        dsimp only [List.set_cons_zero, List.set_cons_succ]
        refine wpSeqG_free (d := 50) (v := ?_) rfl rfl (by kernel_rfl) (fun w => ?_) ?_
        rotate_left
        · go_simp <;> with_reducible rfl
        dsimp only [List.set_cons_zero, List.set_cons_succ]
        refine wpSeqG_free (d := 51) (v := ?_) rfl rfl (by kernel_rfl) (fun w => ?_) ?_
        rotate_left
        · go_simp <;> with_reducible rfl
        dsimp only [List.set_cons_zero, List.set_cons_succ]
        refine wpSeqG_take (d := 52) (v := ?_) rfl rfl (by kernel_rfl) (fun w hS => ?_) ?_
        rotate_left
        · go_simp <;> with_reducible rfl
        dsimp only [List.set_cons_zero, List.set_cons_succ]
        refine wpSeqG_free (d := 53) (v := ?_) rfl rfl (by kernel_rfl) (fun w => ?_) ?_
        rotate_left
        · go_simp <;> with_reducible rfl
        dsimp only [List.set_cons_zero, List.set_cons_succ]
        refine wpSeqG_free (d := 54) (v := ?_) rfl rfl (by kernel_rfl) (fun w => ?_) ?_
        rotate_left
        · go_simp <;> with_reducible rfl
        dsimp only [List.set_cons_zero, List.set_cons_succ]
        refine wpSeqG_free (d := 55) (v := ?_) rfl rfl (by kernel_rfl) (fun w => ?_) ?_
        rotate_left
        · go_simp <;> with_reducible rfl
        dsimp only [List.set_cons_zero, List.set_cons_succ]
        refine wpSeqG_free (d := 56) (v := ?_) rfl rfl (by kernel_rfl) (fun w => ?_) ?_
        rotate_left
        · go_simp <;> with_reducible rfl
        dsimp only [List.set_cons_zero, List.set_cons_succ]
        refine wpSeqG_take (d := 57) (v := ?_) rfl rfl (by kernel_rfl) (fun w hS => ?_) ?_
        rotate_left
        · go_simp <;> with_reducible rfl
        dsimp only [List.set_cons_zero, List.set_cons_succ]
        refine wpSeqG_free (d := 58) (v := ?_) rfl rfl (by kernel_rfl) (fun w => ?_) ?_
        rotate_left
        · go_simp <;> with_reducible rfl
        dsimp only [List.set_cons_zero, List.set_cons_succ]
        refine wpSeqG_free (d := 59) (v := ?_) rfl rfl (by kernel_rfl) (fun w => ?_) ?_
        rotate_left
        · go_simp <;> with_reducible rfl
        dsimp only [List.set_cons_zero, List.set_cons_succ]
        refine wpSeqG_free (d := 60) (v := ?_) rfl rfl (by kernel_rfl) (fun w => ?_) ?_
        rotate_left
        · go_simp <;> with_reducible rfl
        dsimp only [List.set_cons_zero, List.set_cons_succ]
        refine wpSeqG_take (d := 61) (v := ?_) rfl rfl (by kernel_rfl) (fun w hS => ?_) ?_
        rotate_left
        · go_simp <;> with_reducible rfl
        dsimp only [List.set_cons_zero, List.set_cons_succ]
        refine wpSeqG_free (d := 62) (v := ?_) rfl rfl (by kernel_rfl) (fun w => ?_) ?_
        rotate_left
        · go_simp <;> with_reducible rfl
        dsimp only [List.set_cons_zero, List.set_cons_succ]
        refine wpSeqG_free (d := 63) (v := ?_) rfl rfl (by kernel_rfl) (fun w => ?_) ?_
        rotate_left
        · go_simp <;> with_reducible rfl
        dsimp only [List.set_cons_zero, List.set_cons_succ]
        refine wpSeqG_free (d := 64) (v := ?_) rfl rfl (by kernel_rfl) (fun w => ?_) ?_
        rotate_left
        · go_simp <;> with_reducible rfl
        dsimp only [List.set_cons_zero, List.set_cons_succ]
        refine wpSeqG_free (d := 65) (v := ?_) rfl rfl (by kernel_rfl) (fun w => ?_) ?_
        rotate_left
        · go_simp <;> with_reducible rfl
        dsimp only [List.set_cons_zero, List.set_cons_succ]
        refine wpSeqG_free (d := 66) (v := ?_) rfl rfl (by kernel_rfl) (fun w => ?_) ?_
        rotate_left
        · go_simp <;> with_reducible rfl
        dsimp only [List.set_cons_zero, List.set_cons_succ]
        refine wpSeqG_free (d := 67) (v := ?_) rfl rfl (by kernel_rfl) (fun w => ?_) ?_
        rotate_left
        · go_simp <;> with_reducible rfl
        dsimp only [List.set_cons_zero, List.set_cons_succ]
        refine wpSeqG_free (d := 68) (v := ?_) rfl rfl (by kernel_rfl) (fun w => ?_) ?_
        rotate_left
        · go_simp <;> with_reducible rfl
        dsimp only [List.set_cons_zero, List.set_cons_succ]
        refine wpSeqG_take (d := 69) (v := ?_) rfl rfl (by kernel_rfl) (fun w hS => ?_) ?_
        rotate_left
        · go_simp <;> with_reducible rfl
        dsimp only [List.set_cons_zero, List.set_cons_succ]
        refine wpSeqG_free (d := 70) (v := ?_) rfl rfl (by kernel_rfl) (fun w => ?_) ?_
        rotate_left
        · go_simp <;> with_reducible rfl
        dsimp only [List.set_cons_zero, List.set_cons_succ]
        refine wpSeqG_free (d := 71) (v := ?_) rfl rfl (by kernel_rfl) (fun w => ?_) ?_
        rotate_left
        · go_simp <;> with_reducible rfl
        dsimp only [List.set_cons_zero, List.set_cons_succ]
        refine wpSeqG_free (d := 72) (v := ?_) rfl rfl (by kernel_rfl) (fun w => ?_) ?_
        rotate_left
        · go_simp <;> with_reducible rfl
        dsimp only [List.set_cons_zero, List.set_cons_succ]
        refine wpSeqG_take (d := 73) (v := ?_) rfl rfl (by kernel_rfl) (fun w hS => ?_) ?_
        rotate_left
        · go_simp <;> with_reducible rfl
        dsimp only [List.set_cons_zero, List.set_cons_succ]
        refine wpSeqG_free (d := 74) (v := ?_) rfl rfl (by kernel_rfl) (fun w => ?_) ?_
        rotate_left
        · go_simp <;> with_reducible rfl
        dsimp only [List.set_cons_zero, List.set_cons_succ]
        refine wpSeqG_free (d := 75) (v := ?_) rfl rfl (by kernel_rfl) (fun w => ?_) ?_
        rotate_left
        · go_simp <;> with_reducible rfl
        dsimp only [List.set_cons_zero, List.set_cons_succ]
        refine wpSeqG_free (d := 76) (v := ?_) rfl rfl (by kernel_rfl) (fun w => ?_) ?_
        rotate_left
        · go_simp <;> with_reducible rfl
        dsimp only [List.set_cons_zero, List.set_cons_succ]
        refine wpSeqG_free (d := 77) (v := ?_) rfl rfl (by kernel_rfl) (fun w => ?_) ?_
        rotate_left
        · go_simp <;> with_reducible rfl
        dsimp only [List.set_cons_zero, List.set_cons_succ]
        refine wpSeqG_gate rfl (by kernel_rfl) (fun K hK => ?_)
        go_simp
        refine hK.out _ _ ?_
        clear hK
        refine wpSeqG_done ?_
        refine NoPanic.normal ?_
        clear k0 k1 k2 f0 f1 z0 z1 y1 y2 hH
        have hA4 := (HA.out.1.setW HA.out.2.1 u0 u1).keepB (B.refl _).drew
        have g4 : G (Rng lo hi) w ((w.setCell ⟨g, k * 2, none⟩ (.int .i64 u0)).setCell ⟨g, k * 2 + 1, none⟩ (.int .i64 u1)).drew := (G.set2 HA.out.2.2.2.2.2 _ _).drew
        go_simp
        generalize ((w.setCell ⟨g, k * 2, none⟩ (.int .i64 u0)).setCell ⟨g, k * 2 + 1, none⟩ (.int .i64 u1)).drew = W4 at *
        have j0 := obj_cell hA4.obj 0
        have j1 := obj_cell hA4.obj 1
        have j2 := obj_cell hA4.obj 2
        have y1 := obj_free hA4.obj 1
        have y2 := obj_free hA4.obj 2
        rw [List.length_set, hN] at j0
        have HG := Lib.hid (And.intro hA4 g4)
        clear hA4 g4
        go_wp2_with fail
        refine wp_region_noPanic ?_
        refine wp_region_gate (S := fun w' => w'.cell? ⟨b, 0, none⟩ = some (.slice (some ⟨g, 0, none⟩) N c) ∧ w'.cell? ⟨b, 1, none⟩ = some (.int .i64 t0) ∧ w'.cell? ⟨b, 2, none⟩ = some (.int .i64 t1) ∧ w'.frozen? ⟨b, 1, none⟩ = false ∧ w'.frozen? ⟨b, 2, none⟩ = false) 20 [(0, 3), (1, 3), (2, 3), (3, 3), (4, 3), (5, 0), (6, 3), (7, 3), (8, 3), (9, 3), (10, 3), (11, 3), (12, 0), (13, 3), (14, 3), (15, 3), (16, 3), (17, 3), (18, 3), (19, 3), (20, 4)] [0, 0, 2, 4, 8, 16, 0, 96, 0, 256, 512, 1024, 2048, 0, 12288, 0, 49152, 65664, 262143, 524287, 786431] [0, 0, 2, 4, 8, 16, 0, 96, 0, 256, 512, 1024, 2048, 0, 12288, 0, 49152, 65664, 1, 262144, 655360] [0, 0, 0, 0, 0, 1966240, 0, 0, 0, 0, 0, 0, 2052096, 0, 0, 0, 0, 0, 0, 0, 0] (by kernel_rfl) (by kernel_rfl) (fun _ _ _ _ _ h => h) ?_ (fun hH => ?_)
        · exact ⟨j0, j1, j2, y1, y2⟩
        refine wpSeqG_free (d := 78) (v := ?_) rfl rfl (by kernel_rfl) (fun w => ?_) ?_
        rotate_left
        · go_simp <;> with_reducible rfl
        dsimp only [List.set_cons_zero, List.set_cons_succ]
        refine wpSeqG_free (d := 79) (v := ?_) rfl rfl (by kernel_rfl) (fun w => ?_) ?_
        rotate_left
        · go_simp <;> with_reducible rfl
        dsimp only [List.set_cons_zero, List.set_cons_succ]
        refine wpSeqG_free (d := 80) (v := ?_) rfl rfl (by kernel_rfl) (fun w => ?_) ?_
        rotate_left
        · go_simp <;> with_reducible rfl
        dsimp only [List.set_cons_zero, List.set_cons_succ]
        refine wpSeqG_free (d := 81) (v := ?_) rfl rfl (by kernel_rfl) (fun w => ?_) ?_
        rotate_left
        · go_simp <;> with_reducible rfl
        dsimp only [List.set_cons_zero, List.set_cons_succ]
        refine wpSeqG_free (d := 82) (v := ?_) rfl rfl (by kernel_rfl) (fun w => ?_) ?_
        rotate_left
        · go_simp <;> with_reducible rfl
        dsimp only [List.set_cons_zero, List.set_cons_succ]
        refine wpSeqG_take (d := 83) (v := ?_) rfl rfl (by kernel_rfl) (fun w hS => ?_) ?_
        rotate_left
        · go_simp <;> with_reducible rfl
        dsimp only [List.set_cons_zero, List.set_cons_succ]
        refine wpSeqG_free (d := 84) (v := ?_) rfl rfl (by kernel_rfl) (fun w => ?_) ?_
        rotate_left
        · go_simp <;> with_reducible rfl
        dsimp only [List.set_cons_zero, List.set_cons_succ]
        refine wpSeqG_free (d := 85) (v := ?_) rfl rfl (by kernel_rfl) (fun w => ?_) ?_
        rotate_left
        · go_simp <;> with_reducible rfl
        dsimp only [List.set_cons_zero, List.set_cons_succ]
        refine wpSeqG_free (d := 86) (v := ?_) rfl rfl (by kernel_rfl) (fun w => ?_) ?_
        rotate_left
        · go_simp <;> with_reducible rfl
        dsimp only [List.set_cons_zero, List.set_cons_succ]
        refine wpSeqG_free (d := 87) (v := ?_) rfl rfl (by kernel_rfl) (fun w => ?_) ?_
        rotate_left
        · go_simp <;> with_reducible rfl
        dsimp only [List.set_cons_zero, List.set_cons_succ]
        refine wpSeqG_free (d := 88) (v := ?_) rfl rfl (by kernel_rfl) (fun w => ?_) ?_
        rotate_left
        · go_simp <;> with_reducible rfl
        dsimp only [List.set_cons_zero, List.set_cons_succ]
        refine wpSeqG_free (d := 89) (v := ?_) rfl rfl (by kernel_rfl) (fun w => ?_) ?_
        rotate_left
        · go_simp <;> with_reducible rfl
        dsimp only [List.set_cons_zero, List.set_cons_succ]
        refine wpSeqG_take (d := 90) (v := ?_) rfl rfl (by kernel_rfl) (fun w hS => ?_) ?_
        rotate_left
        · go_simp <;> with_reducible rfl
        dsimp only [List.set_cons_zero, List.set_cons_succ]
        refine wpSeqG_free (d := 91) (v := ?_) rfl rfl (by kernel_rfl) (fun w => ?_) ?_
        rotate_left
        · go_simp <;> with_reducible rfl
        dsimp only [List.set_cons_zero, List.set_cons_succ]
        refine wpSeqG_free (d := 92) (v := ?_) rfl rfl (by kernel_rfl) (fun w => ?_) ?_
        rotate_left
        · go_simp <;> with_reducible rfl
        dsimp only [List.set_cons_zero, List.set_cons_succ]
        refine wpSeqG_free (d := 93) (v := ?_) rfl rfl (by kernel_rfl) (fun w => ?_) ?_
        rotate_left
        · go_simp <;> with_reducible rfl
        dsimp only [List.set_cons_zero, List.set_cons_succ]
        refine wpSeqG_free (d := 94) (v := ?_) rfl rfl (by kernel_rfl) (fun w => ?_) ?_
        rotate_left
        · go_simp <;> with_reducible rfl
        dsimp only [List.set_cons_zero, List.set_cons_succ]
        refine wpSeqG_free (d := 95) (v := ?_) rfl rfl (by kernel_rfl) (fun w => ?_) ?_
        rotate_left
        · go_simp <;> with_reducible rfl
        dsimp only [List.set_cons_zero, List.set_cons_succ]
        refine wpSeqG_free (d := 96) (v := ?_) rfl rfl (by kernel_rfl) (fun w => ?_) ?_
        rotate_left
        · go_simp <;> with_reducible rfl
        dsimp only [List.set_cons_zero, List.set_cons_succ]
        refine wpSeqG_free (d := 97) (v := ?_) rfl rfl (by kernel_rfl) (fun w => ?_) ?_
        rotate_left
        · go_simp <;> with_reducible rfl
        dsimp only [List.set_cons_zero, List.set_cons_succ]
        refine wpSeqG_gate rfl (by kernel_rfl) (fun K hK => ?_)
        go_simp
        refine hK.out _ _ ?_
        clear hK
        refine wpSeqG_done ?_
        refine NoPanic.normal ?_
        clear j0 j1 j2 y1 y2 hH
        have hA5 := (HG.out.1.setT v0 v2).keepB (B.refl _).drew
        have g5 : G (Rng lo hi) w ((W4.setCell ⟨b, 1, none⟩ (.int .i64 v0)).setCell ⟨b, 2, none⟩ (.int .i64 v2)).drew := HG.out.2.trans (G.set2 ⟨HA.out.1.blo, HA.out.1.bhi⟩ _ _).drew
        go_simp
        generalize ((W4.setCell ⟨b, 1, none⟩ (.int .i64 v0)).setCell ⟨b, 2, none⟩ (.int .i64 v2)).drew = W5 at *
        have HF := Lib.hid (And.intro hA5 g5)
        clear hA5 g5
        go_wp2
        go_ret
        exact ⟨by rw [HA.out.2.2.2.2.1]; rfl, ⟨b, _, c, rfl, by rw [HA.out.2.2.1, HA.out.2.2.2.1]; exact HF.out.1⟩, HF.out.2⟩
      · have hlD : decide (x + e ≤ (getS W i).1) = false := decide_eq_false hl
        obtain ⟨i0, hlt, hg⟩ := hasS_ix hs
        obtain ⟨g, rfl, g1, g2, g3, f0, f1, z0, z1⟩ := hA.at_ hg
        have hok : drawOk W i x e = false := by unfold drawOk; simp [*]
        have HA := Lib.hid hA
        clear hA
        obtain ⟨k, rfl⟩ : ∃ k : Nat, i = (k : Int) := ⟨i.toNat, by omega⟩
        rw [show ((k : Int)).toNat = k by omega] at f0 f1 z0 z1 hlt
        generalize getS W (k : Int) = X at *
        obtain ⟨x0, x1⟩ := X
        simp only at f0 f1 hl
        obtain ⟨xe, hxe⟩ : ∃ z, x + e = z := ⟨_, rfl⟩
        have w1 : IntKind.i64.wrap (x + e) = xe := by rw [hxe]; exact wrapI (by omega) (by omega)
        have dl : decide (x0 < xe) = true := decide_eq_true (by omega)
        have hnI : (k : Int) < (N : Int) := by omega
        have hk0 : (0 : Int) ≤ (k : Int) := by omega
        go_enter Try.func12, Try.ntmps12
        go_wp2_with fail
        refine (cX _).mono ?_
        rintro e9 wS ⟨rfl, rfl⟩
        go_wp2_with fail
        refine (cE _).mono ?_
        rintro e9 wS ⟨rfl, rfl⟩
        go_wp2
        go_ret
        exact ⟨by first | (rw [hok]; rfl) | rfl, by rw [drawW_no hok, drawT_no hok]; exact ⟨_, _, _, rfl, HA.out⟩, G.refl _ _⟩
end Go.Proofs.Ytkhaephmpifcmaa

namespace Go.Proofs.Ytkhaephmpifcmaa
open Go.RowKit Go.Maps Go.WideMaps
set_option linter.unusedVariables false
theorem thing_zero (w : World) : (zeroValue 100).run Try.prog w = .ok (.pointer none) w := by kernel_rfl
theorem look_th {w : World} {m b : Nat} {ns : List ByteArray} {bs : List Nat} {s : ByteArray} (hs : s.size ≤ maxLen) (h : ThMap w m ns bs) (ha : thD ns bs s = .lit (.int .i64 b)) :
    (Instr.lookup 97 (.map (some m)) (.string s) false).run Try.prog w = .ok (.pointer (some ⟨b, 0, none⟩)) w := by
  obtain ⟨D, hD, _, hA, _⟩ := h
  obtain ⟨v, ps, h1, h2⟩ := hD.lookup str_law Try.underlying97 (thing_zero w) (zd := .nil) (zp := []) rfl (key9 s hs)
  rw [hA, ha] at h2
  rw [h1, ptrElem_lit h2]
/-- A name among rows that are apart: its place, and what the map of things holds at it. -/
theorem named_at {ok : Wr → Bool} {ws : List Wr} (hA : apartW ok ws = true) {n : ByteArray} (h : namedL (ws.map (·.n)) n = true) (bs : List Nat) (hl : bs.length = ws.length) :
    ∃ (i : Nat) (rc : Wr) (b : Nat), ws[i]? = some rc ∧ rc.n = n ∧ bs[i]? = some b ∧ thD (ws.map (·.n)) bs n = .lit (.int .i64 b) := by
  obtain ⟨m, hm, he⟩ := List.any_eq_true.1 h
  obtain ⟨rc, hrc, rfl⟩ := List.mem_map.1 hm
  obtain ⟨i, hi⟩ := List.getElem?_of_mem hrc
  have hil := (List.getElem?_eq_some_iff.1 hi).1
  have hn : rc.n = n := ba_eq (by simpa using he)
  obtain ⟨b, hb⟩ : ∃ b, bs[i]? = some b := ⟨_, List.getElem?_eq_getElem (by omega)⟩
  refine ⟨i, rc, b, hi, hn, hb, ?_⟩
  subst hn
  refine thD_at _ _ i rc.n b (by rw [List.getElem?_map, hi]; rfl) hb (fun j m hj hjm => ?_)
  rw [List.getElem?_map] at hjm
  cases hw : ws[j]? with
  | none => rw [hw] at hjm; cases hjm
  | some y =>
    rw [hw] at hjm
    obtain rfl : y.n = m := Option.some.inj hjm
    have hap := (apart_at hA hi).2
    unfold namedW at hap
    rw [List.any_eq_false] at hap
    have := hap y (List.mem_of_getElem? (show (ws.take i)[j]? = some y by rw [List.getElem?_take, if_pos hj]; exact hw))
    simpa using this
theorem indexC_named : ∀ (ws : List Wr) (K : Int) (n : ByteArray) (r c : Int), (indexC ws K n r c).isSome = true → namedL (ws.map (·.n)) n = true
  | [], _, _, _, _, h => by cases h
  | w :: ws, K, n, r, c, h => by
    simp only [List.map_cons, namedL, List.any_cons, Bool.or_eq_true]
    cases hb : hasB w.n w.x w.y n r c with
    | true =>
      unfold hasB at hb
      simp only [Bool.and_eq_true] at hb
      exact .inl hb.1.1
    | false =>
      unfold indexC at h
      rw [hb] at h
      exact .inr (indexC_named ws _ n r c (by simpa using h))
end Go.Proofs.Ytkhaephmpifcmaa

namespace Go.Proofs.Ytkhaephmpifcmaa
open Go.RowKit
set_option linter.unusedVariables false
set_option maxRecDepth 100000 in
set_option maxHeartbeats 2000000 in
theorem wcount_any (wv tv fv : Value) (d : Dk) (w : World) (h : IsDk w wv tv fv d) (hb : ∀ x ∈ d.ws, wareB x) (h100 : d.ws.length ≤ 100) : Calls Try.prog 41 #[.agg #[wv, tv, fv]] w fun e w' => e = .returned (.int .i64 (countW d.ws)) ∧ Q w w' := by
  obtain ⟨ao, ac, bo, bc, co, cc, rfl, rfl, rfl⟩ := h.forms
  have hQ := (Q.refl w).alloc #[.slice ao d.ws.length ac, .slice bo d.ts.length bc, .slice co d.fs.length cc] 67
  have hR := h.ws.keepB hQ.b
  have oD := obj_new w (.cells #[.slice ao d.ws.length ac, .slice bo d.ts.length bc, .slice co d.fs.length cc] 67)
  obtain ⟨W, hW⟩ : ∃ W, w.alloc (.cells #[.slice ao d.ws.length ac, .slice bo d.ts.length bc, .slice co d.fs.length cc] 67) = W := ⟨_, rfl⟩
  rw [hW] at hR hQ oD
  have k0 : W.cell? ⟨w.heap.size, 0, none⟩ = some (.slice ao d.ws.length ac) := obj_cell oD 0
  clear h oD
  go_enter Try.func41, Try.ntmps41
  go_wp2_with fail
  try rw [hW]
  go_wp2_with fail
  clear hW k0
  generalize w.heap.size = H at *
  go_loopw [3, 9] (fun nv iv wr => ∃ (i : Nat) (K : Int), i ≤ d.ws.length ∧ iv = .int .i64 i ∧ nv = .int .i64 K ∧ 0 ≤ K ∧ K ≤ 96 * (i : Int) ∧ K = countW (d.ws.take i) ∧ Q W wr) (fun _ iv _ => d.ws.length + 1 - (intOf iv).toNat)
  case atStart => exact ⟨0, 0, Nat.zero_le _, rfl, rfl, by omega, by omega, rfl, Q.refl _⟩
  case round =>
    obtain ⟨i, K, hi, rfl, rfl, hK0, hK1, hKe, hQi⟩ := hrel
    obtain ⟨wo, rfl⟩ : ∃ wo : World, wo = wr := ⟨_, rfl⟩
    by_cases hl : i < d.ws.length
    · have hlB : decide ((i : Int) < (d.ws.length : Int)) = true := decide_eq_true (by omega)
      have hlI : (i : Int) < (d.ws.length : Int) := by omega
      have hi0 : (0 : Int) ≤ (i : Int) := by omega
      have wk1 : IntKind.i64.wrap ((i : Int) + 1) = (i : Int) + 1 := by rw [IntKind.wrap_i64]; omega
      obtain ⟨a, cap, e1, _, _, hr⟩ := (hR.keepB hQi.b).at_ hl
      obtain ⟨rfl, _, rfl⟩ : ao = some a ∧ True ∧ ac = cap := by simpa using e1
      have hbi := hb _ (List.getElem_mem hl)
      have hT := count_take (ws := d.ws) (i := i) (List.getElem?_eq_getElem hl)
      obtain ⟨F, hF⟩ : ∃ F, d.ws[i] = F := ⟨_, rfl⟩
      rw [hF] at hr hbi hT
      obtain ⟨g1, g2, g3, g4, sv, g5, g6⟩ := hr
      obtain ⟨so, sc, rfl⟩ := secs_form g6
      obtain ⟨sn, hsn⟩ : ∃ sn, F.l.length = sn := ⟨_, rfl⟩
      rw [hsn] at g5 g6
      clear hsn
      obtain ⟨N, X, Y, Z, SL⟩ := F
      have cs := fun w => wsize_any N X Y Z _ so sn sc rfl hbi w
      obtain ⟨b1, b2, b3, b4⟩ := hbi
      simp only at g1 g2 g3 g4 g5 b1 b2 b3 b4 hT
      have hxy := mul_small (a := X) (b := Y) (by omega) b2 (by omega) b4
      rw [← hKe] at hT
      generalize X * Y = P at *
      have w2 : IntKind.i64.wrap (K + P) = K + P := by rw [IntKind.wrap_i64]; omega
      have q1 := (Q.refl wo).alloc #[.string N, .int .i64 X, .int .i64 Y, .int .i64 Z, .slice so sn sc] 58
      have HX := Lib.hid (And.intro hT (And.intro (show 0 ≤ K + P ∧ K + P ≤ 96 * ((i : Int) + 1) by omega) (And.intro hl (hQi.trans q1))))
      obtain ⟨W1, hW1⟩ : ∃ W1, wo.alloc (.cells #[.string N, .int .i64 X, .int .i64 Y, .int .i64 Z, .slice so sn sc] 58) = W1 := ⟨_, rfl⟩
      have oW := obj_new wo (.cells #[.string N, .int .i64 X, .int .i64 Y, .int .i64 Z, .slice so sn sc] 58)
      rw [hW1] at HX oW
      have p0 : W1.cell? ⟨wo.heap.size, 0, none⟩ = some (.string N) := obj_cell oW 0
      have p1 : W1.cell? ⟨wo.heap.size, 1, none⟩ = some (.int .i64 X) := obj_cell oW 1
      have p2 : W1.cell? ⟨wo.heap.size, 2, none⟩ = some (.int .i64 Y) := obj_cell oW 2
      have p3 : W1.cell? ⟨wo.heap.size, 3, none⟩ = some (.int .i64 Z) := obj_cell oW 3
      have p4 : W1.cell? ⟨wo.heap.size, 4, none⟩ = some (.slice so sn sc) := obj_cell oW 4
      clear oW hT hKe hb hF e1 hl hi q1 g6
      go_wp2_with fail
      refine (cs _).mono ?_
      rintro _ w2 ⟨rfl, q2⟩
      go_wp2
      go_roundw
      case rel =>
        obtain ⟨h1, ⟨h2, h3⟩, h4, h5⟩ := HX.out
        exact ⟨i + 1, K + P, by omega, by go_num, rfl, h2, by omega, h1.symm, h5.trans q2⟩
      case measure => have := HX.out; simp [intOf]; omega
    · have hlB : decide ((i : Int) < (d.ws.length : Int)) = false := decide_eq_false (by omega)
      have hlN : decide (i < d.ws.length) = false := decide_eq_false hl
      rw [List.take_of_length_le (by omega)] at hKe
      have HX := Lib.hid (And.intro hKe (hQ.trans hQi))
      clear hKe hl
      go_wp2
      go_ret
      exact ⟨by rw [← HX.out.1]; rfl, HX.out.2⟩
end Go.Proofs.Ytkhaephmpifcmaa

namespace Go.Proofs.Ytkhaephmpifcmaa
open Go.RowKit Go.Maps Go.WideMaps
set_option linter.unusedVariables false
theorem spanInfo : (Try.prog.info? 38).map (fun i => (i.zero, i.size, i.bytes)) = some (some (.agg #[.int .i64 0, .int .i64 0]), 2, 16) := by kernel_rfl
section
variable {P : Bp} {m9 : Nat} {E : List Ent} {X : List Th}
set_option maxRecDepth 100000 in
set_option maxHeartbeats 4000000 in
theorem dstart_any (w : World) (h : BoardM P w m9 E X) (hz : ∀ f ∈ P.d.fs, f.n.size ≤ maxLen ∧ I64 f.r ∧ I64 f.c) (hf9 : P.d.fs.length ≤ 1000000) :
    Calls Try.prog 24 #[.pointer (some ⟨P.b, 0, none⟩)] w fun e w' => ∃ g, e = .returned (.slice (some ⟨g, 0, none⟩) (startD P.d).length (startD P.d).length) ∧ w'.ownsRow w.heap.size 38 2 (.slice (some ⟨g, 0, none⟩) (startD P.d).length (startD P.d).length) (startD P.d).length (flatP (startD P.d)) ∧ B w w' := by
  obtain ⟨p8, p4, pW, pT⟩ := right_parts9 h.right
  have hwb := wares_in pW
  have hcn0 := count_pos P.d.ws hwb
  have hcn1 := count_le P.d.ws hwb
  have cC := wcount_any P.wv P.tv P.fv P.d w h.dk.now hwb (by omega)
  obtain ⟨i0, hi0, hz0, hz1, hz2⟩ := info_of spanInfo
  have hmade := made_spans (countW P.d.ws).toNat
  have hSD := startD_len P.d
  obtain ⟨nn, hnn⟩ : ∃ nn, (countW P.d.ws).toNat = nn := ⟨_, rfl⟩
  have hcI : countW P.d.ws = (nn : Int) := by omega
  rw [hcI] at cC
  rw [hnn] at hmade hSD
  rw [hSD]
  obtain ⟨ao, ac, bo, bc, co, cc, e1, e2, e3⟩ := h.dk.now.forms
  have oB := h.obj
  rw [e1, e2, e3] at oB cC
  have k0 := obj_cell oB 0
  have k1 := obj_cell oB 1
  have k2 := obj_cell oB 2
  have HB := Lib.hid h
  have HE := Lib.hid (And.intro e1 (And.intro e2 e3))
  obtain ⟨cn, hcn⟩ : ∃ cn, P.d.fs.length = cn := ⟨_, rfl⟩
  obtain ⟨an, han⟩ : ∃ an, P.d.ws.length = an := ⟨_, rfl⟩
  obtain ⟨bn, hbn⟩ : ∃ bn, P.d.ts.length = bn := ⟨_, rfl⟩
  rw [hcn] at k2 oB cC
  rw [han] at k0 oB cC
  rw [hbn] at k1 oB cC
  generalize hb9 : P.b = b at *
  clear h e1 e2 e3
  go_enter Try.func24, Try.ntmps24
  go_wp2_with fail
  refine cC.mono ?_
  rintro e w1 ⟨rfl, q1⟩
  have q1b := q1.b
  replace k0 := q1b.keep k0
  replace k1 := q1b.keep k1
  replace k2 := q1b.keep k2
  have hs1 := q1b.below.size
  clear cC oB
  have hb16 : i0.bytes * nn ≤ 281474976710656 := by rw [hz2]; omega
  have hbml : nn ≤ maxLen := by unfold maxLen; omega
  go_wp2_with (at_make; refine wpList_make_full _ rfl _ _ 41 rfl w1.heap.size 38 i0 _ 2 Try.underlying41 hi0 hz0 hz1 .i64 .i64 _ _ nn rfl rfl rfl rfl hb16 hbml (Nat.le_refl _) ?_; intro wm hrow hgrow; have hr2 : wm.ownsRow w1.heap.size 38 2 (.slice (some ⟨w1.heap.size, 0, none⟩) nn nn) nn (flatP (List.replicate nn (0, 0))) := (by rw [← hmade]; exact hrow); have qm := (B.refl w1).grownBy hgrow (fun _ h => by cases h); replace k0 := qm.keep k0; replace k1 := qm.keep k1; replace k2 := qm.keep k2; clear hgrow)
  generalize hgg : w1.heap.size = g at *
  obtain ⟨W, rfl⟩ : ∃ W : World, W = wm := ⟨_, rfl⟩
  have qW := q1b.trans qm
  have hS0 : W.ownsRow g 38 2 (.slice (some ⟨g, 0, none⟩) nn nn) nn (flatP (startF P.d.ws (List.replicate nn (0, 0)) (P.d.fs.take 0))) := hr2
  clear hrow hr2 q1 q1b qm hmade
  go_loopw [21] (fun iv wr => ∃ j : Nat, j ≤ cn ∧ iv = .int .i64 j ∧ wr.ownsRow g 38 2 (.slice (some ⟨g, 0, none⟩) nn nn) nn (flatP (startF P.d.ws (List.replicate nn (0, 0)) (P.d.fs.take j))) ∧ B w wr ∧ G (fun k => k = g) W wr) (fun iv _ => cn + 1 - (intOf iv).toNat)
  case atStart => exact ⟨0, Nat.zero_le _, rfl, hS0, qW, G.refl _ _⟩
  case round =>
    obtain ⟨j, hj, rfl, hrow, qr, gr⟩ := hrel
    obtain ⟨wl, rfl⟩ : ∃ wl : World, wl = wr := ⟨_, rfl⟩
    by_cases hl : j < cn
    · have hlB : decide ((j : Int) < (cn : Int)) = true := decide_eq_true (by omega)
      have hlN : decide (j < cn) = true := decide_eq_true hl
      have hlI : (j : Int) < (cn : Int) := by omega
      have hi0 : (0 : Int) ≤ (j : Int) := by omega
      have wk1 : IntKind.i64.wrap ((j : Int) + 1) = (j : Int) + 1 := by rw [IntKind.wrap_i64]; omega
      have hB := HB.out.keepB qr
      have oB := hB.obj
      rw [HE.out.1, HE.out.2.1, HE.out.2.2] at oB
      rw [hcn, han, hbn, hb9] at oB
      have hfi : P.d.fs[j]? = some P.d.fs[j] := List.getElem?_eq_getElem (by omega)
      obtain ⟨a, cap, ha, _, _, hfa⟩ := hB.dk.now.fs.at_ (i := j) (by omega)
      rw [HE.out.2.2] at ha
      simp only [Value.slice.injEq, true_and] at ha
      obtain ⟨rfl, rfl⟩ := ha
      obtain ⟨⟨k, hk, hk0, hk1⟩, hv0, hv1⟩ := right_fill hB.right hfi
      obtain ⟨hzN, hzR, hzC⟩ := hz _ (List.mem_of_getElem? hfi)
      have htk := startF_take P.d.ws (List.replicate nn (0, 0)) hfi
      generalize P.d.fs[j] = f at *
      obtain ⟨N, R, C, V⟩ := f
      obtain ⟨f0, f1, f2, f3⟩ := hfa
      simp only at f0 f1 f2 f3 hk hv0 hv1 hzN hzR hzC
      have hnd := indexC_named P.d.ws 0 N R C (by rw [hk]; rfl)
      obtain ⟨iw, rc, xb, hiw, hrn, hxb, htd⟩ := named_at pW hnd P.bw hB.wl
      obtain ⟨x, hx, hxi, hxl⟩ := hB.xw iw rc hiw
      have hxbb : x.b = xb := by
        have e := congrArg (fun l => l[iw]?) hB.bX
        simp only [List.getElem?_map, hx] at e
        rw [List.getElem?_append_left (List.getElem?_eq_some_iff.1 hxb).1, hxb] at e
        exact Option.some.inj e
      obtain ⟨so, sm, sc, hox, _⟩ := (hB.things x (List.mem_of_getElem? hx)).obj
      have x0 : wl.cell? ⟨xb, 0, none⟩ = some (.int .i64 (iw : Int)) := by
        rw [← hxbb, obj_cell hox]
        unfold Th.cells
        rw [← hxi]
        split <;> rfl
      have hiwl := (List.getElem?_eq_some_iff.1 hiw).1
      obtain ⟨aw, cw, haw, _, _, hrec⟩ := hB.dk.now.ws.at_ hiwl
      have hrc2 : P.d.ws[iw] = rc := by rw [List.getElem?_eq_getElem hiwl] at hiw; exact Option.some.inj hiw
      rw [hrc2] at hrec
      rw [HE.out.1, han] at haw
      simp only [Value.slice.injEq, true_and] at haw
      obtain ⟨rfl, rfl⟩ := haw
      obtain ⟨TOL, hTOL⟩ : ∃ TOL, rc.z = TOL := ⟨_, rfl⟩
      have htol : tolW P.d.ws N = TOL := by rw [← hrn, ← hTOL]; exact tolW_at pW hiw
      have hrcok := (apart_at pW hiw).1
      have hT01 : 0 ≤ TOL ∧ TOL ≤ 1000000 := by
        unfold wareOk at hrcok
        simp only [Bool.and_eq_true, inB, decide_eq_true_eq] at hrcok
        rw [← hTOL]
        exact hrcok.1.2
      have tz := hrec.z
      rw [hTOL] at tz
      obtain ⟨kN, hkN⟩ : ∃ kN : Nat, k = (kN : Int) := ⟨k.toNat, by omega⟩
      have hslot : slotF P.d.ws ⟨N, R, C, V⟩ = kN := by unfold slotF; rw [hk, hkN]; simp
      have hspan : spanF P.d.ws ⟨N, R, C, V⟩ = (max (V - TOL) 0, V + TOL) := by unfold spanF; rw [htol]
      rw [hslot, hspan] at htk
      obtain ⟨MX, hMX⟩ : ∃ MX, max (V - TOL) 0 = MX := ⟨_, rfl⟩
      obtain ⟨PL, hPL⟩ : ∃ PL, V + TOL = PL := ⟨_, rfl⟩
      obtain ⟨MI, hMI⟩ : ∃ MI, V - TOL = MI := ⟨_, rfl⟩
      rw [hMX, hPL] at htk
      rw [hMI] at hMX
      have n1 : IntKind.i64.wrap (V - TOL) = MI := by rw [IntKind.wrap_i64]; omega
      have n2 : IntKind.i64.wrap (V + TOL) = PL := by rw [IntKind.wrap_i64]; omega
      have cI0 : ∀ w', B wl w' → Calls Try.prog 42 #[.agg #[P.wv, P.tv, P.fv], .agg #[.string N, .int .i64 R, .int .i64 C]] w' fun e w'' => e = .returned (.tuple #[.int .i64 ((indexC P.d.ws 0 N R C).getD 0), .bool (indexC P.d.ws 0 N R C).isSome]) ∧ B w' w'' := fun w' q => (windex_any P.wv P.tv P.fv P.d N R C hzR hzC w' (hB.dk.keepB q).now hwb (by omega)).mono fun _ _ h => ⟨h.1, h.2.b⟩
      rw [hk, HE.out.1, HE.out.2.1, HE.out.2.2, hcn, han, hbn] at cI0
      simp only [Option.isSome_some, Option.getD_some, hkN] at cI0
      have hiwI : (iw : Int) < (an : Int) := by omega
      have hiw0 : (0 : Int) ≤ (iw : Int) := by omega
      have hkI : (kN : Int) < (nn : Int) := by omega
      have hkI0 : (0 : Int) ≤ (kN : Int) := by omega
      have cL := fun (w : World) (hE : ThMap w P.mw (P.d.ws.map (·.n)) P.bw) => look_th hzN hE htd
      have HY := Lib.hid (And.intro hB (And.intro hrow (And.intro qr (And.intro gr (And.intro htk hl)))))
      have hTM := hB.wm
      have k4 := obj_cell oB 4
      replace k0 := obj_cell oB 0
      replace k1 := obj_cell oB 1
      replace k2 := obj_cell oB 2
      clear hB hrow qr gr htk hl hk hv0 hv1 hzR hzC hnd hiw hrn hxb htd hx hxi hxl hxbb hox hiwl hrc2 hrec htol hrcok hT01 hTOL hkN hslot hspan hPL hMI hfi hk0 hk1 oB hzN
      go_wp2_with fail
      have qx : B wl (wl.alloc (.cells #[.string N, .int .i64 R, .int .i64 C, .int .i64 V] 63)) := (B.refl _).alloc _ _
      have oF := obj_new wl (.cells #[.string N, .int .i64 R, .int .i64 C, .int .i64 V] 63)
      have cI1 := fun w' (q : B (wl.alloc (.cells #[.string N, .int .i64 R, .int .i64 C, .int .i64 V] 63)) w') => cI0 w' (qx.trans q)
      replace hTM := hTM.g (qx.g (fun _ => False)) (fun h => h)
      replace k0 := qx.keep k0
      replace k1 := qx.keep k1
      replace k2 := qx.keep k2
      replace k4 := qx.keep k4
      replace x0 := qx.keep x0
      replace tz := qx.keep tz
      clear cI0 f0 f1 f2 f3
      generalize (wl.alloc (.cells #[.string N, .int .i64 R, .int .i64 C, .int .i64 V] 63)) = w2 at *
      generalize hFb : wl.heap.size = Fb at *
      have cI := cI1
      have g0 := obj_cell oF 0
      have g1 := obj_cell oF 1
      have g2 := obj_cell oF 2
      have qd : B w2 w2.drew := (B.refl _).drew
      refine wp_region_noPanic ?_
      refine wp_region_seq (S := fun w' => w'.cell? ⟨b, 0, none⟩ = some (.slice (some aw) an ac) ∧ w'.cell? ⟨b, 1, none⟩ = some (.slice bo bn bc) ∧ w'.cell? ⟨b, 2, none⟩ = some (.slice (some a) cn cc) ∧ w'.cell? ⟨Fb, 0, none⟩ = some (.string N) ∧ w'.cell? ⟨Fb, 1, none⟩ = some (.int .i64 R) ∧ w'.cell? ⟨Fb, 2, none⟩ = some (.int .i64 C) ∧ B w2 w') [(0, 0), (1, 0), (2, 0), (3, 0), (4, 0), (5, 0), (6, 2), (7, 0), (8, 0), (9, 0), (10, 0), (11, 0)] [0, 1, 2, 4, 0, 16, 40, 64, 128, 128, 511, 2047] [0, 1, 2, 4, 0, 16, 40, 64, 128, 128, 256, 512] (by kernel_rfl) (by kernel_rfl) (fun _ _ _ _ _ h => h) ?_ (fun hH => ?_)
      · exact ⟨qd.keep k0, qd.keep k1, qd.keep k2, qd.keep g0, qd.keep g1, qd.keep g2, qd⟩
      refine wpSeq_take (d := 26) (v := ?_) rfl rfl (by kernel_rfl) (fun w hS => ?_) ?_
      rotate_left
      · go_simp <;> with_reducible rfl
      dsimp only [List.set_cons_zero, List.set_cons_succ]
      refine wpSeq_take (d := 27) (v := ?_) rfl rfl (by kernel_rfl) (fun w hS => ?_) ?_
      rotate_left
      · go_simp <;> with_reducible rfl
      dsimp only [List.set_cons_zero, List.set_cons_succ]
      refine wpSeq_take (d := 28) (v := ?_) rfl rfl (by kernel_rfl) (fun w hS => ?_) ?_
      rotate_left
      · go_simp <;> with_reducible rfl
      dsimp only [List.set_cons_zero, List.set_cons_succ]
      refine wpSeq_take (d := 29) (v := ?_) rfl rfl (by kernel_rfl) (fun w hS => ?_) ?_
      rotate_left
      · go_simp <;> with_reducible rfl
      dsimp only [List.set_cons_zero, List.set_cons_succ]
      refine wpSeq_take (d := 30) (v := ?_) rfl rfl (by kernel_rfl) (fun w hS => ?_) ?_
      rotate_left
      · go_simp <;> with_reducible rfl
      dsimp only [List.set_cons_zero, List.set_cons_succ]
      refine wpSeq_take (d := 31) (v := ?_) rfl rfl (by kernel_rfl) (fun w hS => ?_) ?_
      rotate_left
      · go_simp <;> with_reducible rfl
      dsimp only [List.set_cons_zero, List.set_cons_succ]
      refine wpSeq_call rfl (by kernel_rfl) (fun K hK => ?_)
      go_simp
      (with_reducible refine (cI _ hH.2.2.2.2.2.2).mono ?_)
      rintro e w' ⟨rfl, hq⟩
      refine hK.out _ _ ?_ (fun hH => ?_)
      · exact ⟨hq.keep (hH.1), hq.keep (hH.2.1), hq.keep (hH.2.2.1), hq.keep (hH.2.2.2.1), hq.keep (hH.2.2.2.2.1), hq.keep (hH.2.2.2.2.2.1), (hH.2.2.2.2.2.2).trans hq⟩
      clear hK
      refine wpSeq_take (d := 25) (v := ?_) rfl rfl (by kernel_rfl) (fun w hS => ?_) ?_
      rotate_left
      · go_simp <;> with_reducible rfl
      dsimp only [List.set_cons_zero, List.set_cons_succ]
      refine wpSeq_take (d := 33) (v := ?_) rfl rfl (by kernel_rfl) (fun w hS => ?_) ?_
      rotate_left
      · go_simp <;> with_reducible rfl
      dsimp only [List.set_cons_zero, List.set_cons_succ]
      refine wpSeq_take (d := 34) (v := ?_) rfl rfl (by kernel_rfl) (fun w hS => ?_) ?_
      rotate_left
      · go_simp <;> with_reducible rfl
      dsimp only [List.set_cons_zero, List.set_cons_succ]
      refine wpSeq_take (d := 6) (v := ?_) rfl rfl (by kernel_rfl) (fun w hS => ?_) ?_
      rotate_left
      · go_simp <;> with_reducible rfl
      dsimp only [List.set_cons_zero, List.set_cons_succ]
      refine wpSeq_take (d := 7) (v := ?_) rfl rfl (by kernel_rfl) (fun w hS => ?_) ?_
      rotate_left
      · go_simp <;> with_reducible rfl
      dsimp only [List.set_cons_zero, List.set_cons_succ]
      refine wpSeq_done ?_
      refine NoPanic.normal ?_
      obtain ⟨w3, rfl⟩ : ∃ w3 : World, w3 = w' := ⟨_, rfl⟩
      have hB2 : B w2 w3 := hH.2.2.2.2.2.2
      replace k0 := hB2.keep k0
      replace k4 := hB2.keep k4
      replace g0 := hB2.keep g0
      replace x0 := hB2.keep x0
      replace tz := hB2.keep tz
      replace hTM := hTM.g (hB2.g (fun _ => False)) (fun h => h)
      have g3 := obj_cell (hB2.obj oF) 3
      have qd6 : B w3 w3.drew := (B.refl _).drew
      clear hH cI cI1 k1 k2 g1 g2 qd
      go_wp2_with fail
      refine wp_region_noPanic ?_
      refine wp_region_seq (S := fun w' => w'.cell? ⟨b, 0, none⟩ = some (.slice (some aw) an ac) ∧ w'.cell? ⟨b, 4, none⟩ = some (.map (some P.mw)) ∧ w'.cell? ⟨Fb, 0, none⟩ = some (.string N) ∧ ThMap w' P.mw (P.d.ws.map (·.n)) P.bw ∧ w'.cell? ⟨xb, 0, none⟩ = some (.int .i64 (iw : Int)) ∧ w'.cell? ⟨(aw.add (iw * 5)).block, (aw.add (iw * 5)).off + 3, none⟩ = some (.int .i64 TOL)) [(0, 0), (1, 0), (2, 0), (3, 0), (4, 0), (5, 0), (6, 0), (7, 0), (8, 0), (9, 0), (10, 0), (11, 0), (12, 0), (13, 0), (14, 0), (15, 0), (16, 0), (17, 0), (18, 0), (19, 0)] [0, 1, 2, 4, 8, 0, 32, 64, 128, 0, 512, 1024, 2304, 4096, 8192, 16384, 32784, 65536, 131072, 524287] [0, 1, 2, 4, 8, 0, 32, 64, 128, 0, 512, 1024, 2304, 4096, 8192, 16384, 32784, 65536, 131072, 262144] (by kernel_rfl) (by kernel_rfl) (fun _ _ _ _ _ h => h) ?_ (fun hH => ?_)
      · exact ⟨qd6.keep k0, qd6.keep k4, qd6.keep g0, hTM.same rfl, qd6.keep x0, qd6.keep tz⟩
      refine wpSeq_take (d := 35) (v := ?_) rfl rfl (by kernel_rfl) (fun w hS => ?_) ?_
      rotate_left
      · go_simp <;> with_reducible rfl
      dsimp only [List.set_cons_zero, List.set_cons_succ]
      refine wpSeq_take (d := 36) (v := ?_) rfl rfl (by kernel_rfl) (fun w hS => ?_) ?_
      rotate_left
      · go_simp <;> with_reducible rfl
      dsimp only [List.set_cons_zero, List.set_cons_succ]
      refine wpSeq_take (d := 37) (v := ?_) rfl rfl (by kernel_rfl) (fun w hS => ?_) ?_
      rotate_left
      · go_simp <;> with_reducible rfl
      dsimp only [List.set_cons_zero, List.set_cons_succ]
      refine wpSeq_take (d := 38) (v := ?_) rfl rfl (by kernel_rfl) (fun w hS => ?_) ?_
      rotate_left
      · go_simp <;> with_reducible rfl
      dsimp only [List.set_cons_zero, List.set_cons_succ]
      refine wpSeq_take (d := 39) (v := ?_) rfl rfl (by kernel_rfl) (fun w hS => ?_) ?_
      rotate_left
      · go_simp <;> with_reducible rfl
      dsimp only [List.set_cons_zero, List.set_cons_succ]
      refine wpSeq_take (d := 40) (v := ?_) rfl rfl (by kernel_rfl) (fun w hS => ?_) ?_
      rotate_left
      · go_simp <;> with_reducible rfl
      dsimp only [List.set_cons_zero, List.set_cons_succ]
      refine wpSeq_take (d := 41) (v := ?_) rfl rfl (by kernel_rfl) (fun w hS => ?_) ?_
      rotate_left
      · go_simp <;> with_reducible rfl
      dsimp only [List.set_cons_zero, List.set_cons_succ]
      refine wpSeq_take (d := 42) (v := ?_) rfl rfl (by kernel_rfl) (fun w hS => ?_) ?_
      rotate_left
      · go_simp <;> with_reducible rfl
      dsimp only [List.set_cons_zero, List.set_cons_succ]
      refine wpSeq_take (d := 43) (v := ?_) rfl rfl (by kernel_rfl) (fun w hS => ?_) ?_
      rotate_left
      · go_simp <;> with_reducible rfl
      dsimp only [List.set_cons_zero, List.set_cons_succ]
      refine wpSeq_take (d := 44) (v := ?_) rfl rfl (by kernel_rfl) (fun w hS => ?_) ?_
      rotate_left
      · go_simp <;> with_reducible rfl
      dsimp only [List.set_cons_zero, List.set_cons_succ]
      refine wpSeq_take (d := 45) (v := ?_) rfl rfl (by kernel_rfl) (fun w hS => ?_) ?_
      rotate_left
      · go_simp <;> with_reducible rfl
      dsimp only [List.set_cons_zero, List.set_cons_succ]
      refine wpSeq_take (d := 46) (v := ?_) rfl rfl (by kernel_rfl) (fun w hS => ?_) ?_
      rotate_left
      · go_simp <;> with_reducible rfl
      dsimp only [List.set_cons_zero, List.set_cons_succ]
      refine wpSeq_take (d := 47) (v := .pointer (some ⟨xb, 0, none⟩)) rfl rfl (by kernel_rfl) (fun w hS => ?_) ?_
      · have e := cL w hS.2.2.2.1; go_simp
      dsimp only [List.set_cons_zero, List.set_cons_succ]
      refine wpSeq_take (d := 48) (v := ?_) rfl rfl (by kernel_rfl) (fun w hS => ?_) ?_
      rotate_left
      · go_simp <;> with_reducible rfl
      dsimp only [List.set_cons_zero, List.set_cons_succ]
      refine wpSeq_take (d := 49) (v := ?_) rfl rfl (by kernel_rfl) (fun w hS => ?_) ?_
      rotate_left
      · go_simp <;> with_reducible rfl
      dsimp only [List.set_cons_zero, List.set_cons_succ]
      refine wpSeq_take (d := 50) (v := ?_) rfl rfl (by kernel_rfl) (fun w hS => ?_) ?_
      rotate_left
      · go_simp <;> with_reducible rfl
      dsimp only [List.set_cons_zero, List.set_cons_succ]
      refine wpSeq_take (d := 51) (v := ?_) rfl rfl (by kernel_rfl) (fun w hS => ?_) ?_
      rotate_left
      · go_simp <;> with_reducible rfl
      dsimp only [List.set_cons_zero, List.set_cons_succ]
      refine wpSeq_take (d := 52) (v := ?_) rfl rfl (by kernel_rfl) (fun w hS => ?_) ?_
      rotate_left
      · go_simp <;> with_reducible rfl
      dsimp only [List.set_cons_zero, List.set_cons_succ]
      refine wpSeq_take (d := 53) (v := ?_) rfl rfl (by kernel_rfl) (fun w hS => ?_) ?_
      rotate_left
      · go_simp <;> with_reducible rfl
      dsimp only [List.set_cons_zero, List.set_cons_succ]
      refine wpSeq_take (d := 8) (v := ?_) rfl rfl (by kernel_rfl) (fun w hS => ?_) ?_
      rotate_left
      · go_simp <;> with_reducible rfl
      dsimp only [List.set_cons_zero, List.set_cons_succ]
      refine wpSeq_done ?_
      refine NoPanic.normal ?_
      obtain ⟨hB, hrow, qr, gr, htk, hl⟩ := HY.out
      have hrow3 := own_keepBx hrow (qx.trans hB2)
      have y0 := hrow3.cellAt (kN * 2) (by omega)
      have y1 := hrow3.cellAt (kN * 2 + 1) (by omega)
      have z0 := hrow3.frozenAt (kN * 2)
      have z1 := hrow3.frozenAt (kN * 2 + 1)
      have hSl : (startF P.d.ws (List.replicate nn (0, 0)) (P.d.fs.take j)).length = nn := by rw [startF_len, List.length_replicate]
      obtain ⟨s0, hs0⟩ : ∃ s, (startF P.d.ws (List.replicate nn (0, 0)) (P.d.fs.take j))[kN]? = some s := ⟨_, List.getElem?_eq_getElem (by omega)⟩
      obtain ⟨p0, p1⟩ := flatP_get _ _ _ hs0
      rw [p0] at y0
      rw [p1] at y1
      obtain ⟨r1, e1⟩ := hrow3.stored (kN * 2) (.int .i64 MX)
      obtain ⟨r2, e2⟩ := r1.stored (kN * 2 + 1) (.int .i64 PL)
      rw [flatP_set _ _ _ _ (by omega), ← htk] at r2
      have q9 : B w ((w3.setCell ⟨g, kN * 2, none⟩ (.int .i64 MX)).setCell ⟨g, kN * 2 + 1, none⟩ (.int .i64 PL)).drew := (B.setCell (p := ⟨g, kN * 2 + 1, none⟩) (B.setCell (p := ⟨g, kN * 2, none⟩) (qr.trans (qx.trans hB2)) hs1 _) hs1 _).drew
      have g9 : G (fun k => k = g) W ((w3.setCell ⟨g, kN * 2, none⟩ (.int .i64 MX)).setCell ⟨g, kN * 2 + 1, none⟩ (.int .i64 PL)).drew := (G.setCell (S := fun k => k = g) (p := ⟨g, kN * 2 + 1, none⟩) (G.setCell (S := fun k => k = g) (p := ⟨g, kN * 2, none⟩) (gr.trans ((qx.trans hB2).g _)) (.inl rfl) _) (.inl rfl) _).drew
      replace r2 := own_keepBx r2 ((B.refl _).drew)
      have HZ := Lib.hid (And.intro r2 (And.intro q9 (And.intro g9 hl)))
      clear r1 r2 e1 e2 q9 g9 hB hrow qr gr htk hl hrow3 hs0 p0 p1 hTM x0 tz k0 k4 cL HY hH hSl
      go_wp2
      go_roundw
      case rel => exact ⟨j + 1, by have := HZ.out.2.2.2; omega, by go_num, HZ.out.1, HZ.out.2.1, HZ.out.2.2.1⟩
      case measure => have := HZ.out.2.2.2; simp [intOf]; omega
    · have hlB : decide ((j : Int) < (cn : Int)) = false := decide_eq_false (by omega)
      have hlN : decide (j < cn) = false := decide_eq_false hl
      obtain rfl : j = cn := by omega
      rw [List.take_of_length_le (by omega)] at hrow
      have HZ := Lib.hid (And.intro hrow qr)
      clear hrow qr gr
      go_wp2
      go_ret
      have hst : startF P.d.ws (List.replicate nn (0, 0)) P.d.fs = startD P.d := by unfold startD; rw [hnn]
      exact ⟨g, rfl, by rw [← hst]; exact own_low HZ.out.1 hs1, HZ.out.2⟩
end
end Go.Proofs.Ytkhaephmpifcmaa

namespace Go.Proofs.Ytkhaephmpifcmaa
open Go.RowKit
set_option linter.unusedVariables false
theorem indexW_has : ∀ (ws : List Wr) (K : Int) (n : ByteArray) (r c : Int), (indexW ws K n r c).isSome = true → ∃ w ∈ ws, w.n.toList = n.toList ∧ 0 ≤ r ∧ r < w.x ∧ 0 ≤ c ∧ c < w.y
  | [], _, _, _, _, h => by cases h
  | w :: ws, K, n, r, c, h => by
    rw [indexW] at h
    split at h
    · rename_i hh
      split at h
      · rename_i h2
        exact ⟨w, List.mem_cons_self .., by simpa using hh, h2⟩
      · cases h
    · obtain ⟨v, hv, e⟩ := indexW_has ws _ n r c h
      exact ⟨v, List.mem_cons_of_mem _ hv, e⟩
theorem apart_each {ok : Wr → Bool} {ws : List Wr} (h : apartW ok ws = true) : ∀ r ∈ ws, ok r = true := by
  intro r hr
  obtain ⟨i, hi⟩ := List.getElem?_of_mem hr
  have hl : i < ws.length := (List.getElem?_eq_some_iff.1 hi).1
  have h1 := List.all_eq_true.1 h i (List.mem_range.2 hl)
  rw [hi] at h1
  exact (Bool.and_eq_true_iff.1 h1).1
theorem fills_each {ws : List Wr} {fs : List Fl} (h : fillsOk ws fs = true) : ∀ f ∈ fs, hasW ws f.n f.r f.c = true := by
  intro f hf
  obtain ⟨i, hi⟩ := List.getElem?_of_mem hf
  have hl : i < fs.length := (List.getElem?_eq_some_iff.1 hi).1
  have h1 := List.all_eq_true.1 h i (List.mem_range.2 hl)
  rw [hi] at h1
  exact (Bool.and_eq_true_iff.1 (Bool.and_eq_true_iff.1 h1).1).1
theorem nameS_le {n : ByteArray} (h : nameS n = true) : n.size ≤ 16 := by
  unfold nameS at h
  exact of_decide_eq_true (Bool.and_eq_true_iff.1 (Bool.and_eq_true_iff.1 (Bool.and_eq_true_iff.1 h).1).1).2
end Go.Proofs.Ytkhaephmpifcmaa

namespace Go.Proofs.Ytkhaephmpifcmaa
open Go.RowKit
set_option linter.unusedVariables false
theorem run_append_in {P : Program} (w : World) (base : Nat) (t ty e : TypeId) (i : TypeInfo) (z : Value) (size bytes : Nat) (ht : P.underlying t = some (.slice e)) (hi : P.info? e = some i) (hz : i.zero = some z)
    (hsize : i.size = size) (hby : i.bytes = bytes) (hzs : z.cells.size = size) (hsz : 0 < size) (v : Value) (n : Nat) (xs : List Value) (hown : w.ownsRow base e size v n xs) (u : Value) (m : Nat) (news : List Value) (hu : RowIn w u m news) (hl : news.length = m * size) (h1 : ∀ x ∈ news, x.oneCell' = true)
    (h63 : n + m ≤ maxLen) (hbytes : (n + m) * bytes ≤ 140737488355328) (hbase : base ≤ w.heap.size) :
    ∃ o c w', (Builtin.append_ #[t, t] ty #[v, u]).run P w = .ok (.slice o (n + m) c) w' ∧ w'.ownsRow base e size (.slice o (n + m) c) (n + m) (xs ++ news) ∧ w.grownBy w' v.ownBlock := by
  rcases hu with ⟨rfl, rfl, rfl⟩ | ⟨ad, c, rfl, hc⟩
  · obtain ⟨o, c, rfl⟩ := ownsRow_form hown
    exact ⟨o, c, w, run_append_owned_none w base t ty e i size ht hi _ n xs hown, by simpa using hown, ⟨rfl, rfl, rfl, Nat.le_refl _, fun k hk _ => rfl⟩⟩
  · obtain ⟨v', w', hr, h2, h3, _, h5⟩ := run_append_own_at (P := P) w base t ty e i z size bytes ht hi hz hsize hby hzs hsz v n xs hown ad m c news hl hc h1 h63 hbytes hbase
    obtain ⟨o, c', rfl⟩ := ownsRow_form h2
    exact ⟨o, c', w', hr, h2, h3⟩
/-- Behind an append the old row still holds what it held, wherever the new one lies. -/
theorem append_old {P : Program} {w w' : World} {base : Nat} {t ty e : TypeId} {i : TypeInfo} {z : Value} {size bytes : Nat} (ht : P.underlying t = some (.slice e)) (hi : P.info? e = some i) (hz : i.zero = some z)
    (hsize : i.size = size) (hby : i.bytes = bytes) (hzs : z.cells.size = size) (hsz : 0 < size) {v : Value} {n : Nat} {xs : List Value} (hown : w.ownsRow base e size v n xs) {u : Value} {m : Nat} {news : List Value} (hu : RowIn w u m news) (hl : news.length = m * size) (h1 : ∀ x ∈ news, x.oneCell' = true)
    (h63 : n + m ≤ maxLen) (hbytes : (n + m) * bytes ≤ 140737488355328) {v' : Value} (hr : (Builtin.append_ #[t, t] ty #[v, u]).run P w = .ok v' w') (hown' : w'.ownsRow base e size v' (n + m) (xs ++ news)) : w'.ownsRow base e size v n xs := by
  subst hsize
  subst hby
  rcases hu with ⟨rfl, rfl, rfl⟩ | ⟨ad, c, rfl, hc⟩
  · have h2 := run_append_owned_none w base t ty e i i.size ht hi v n xs hown
    rw [h2] at hr
    cases hr
    exact hown
  · rcases hown.2 with ⟨rfl, rfl⟩ | ⟨g, cap, cur, rfl, hbg, hg, hnc, hcm, hcs, htake⟩
    · have hx : xs = [] := List.eq_nil_of_length_eq_zero (by simpa using hown.1)
      subst hx
      exact World.ownsRow_nil _ _ _ _
    · by_cases hroom : n + m ≤ cap
      · have hfit : n * i.size + news.length ≤ cur.size := by rw [hl, hcs, ← Nat.add_mul]; exact Nat.mul_le_mul_right _ hroom
        have h2 := run_append_room (P := P) w t ty e i ht hi g n cap cur hg ad m c news hl hc h1 hroom hfit
        rw [h2] at hr
        cases hr
        rcases hown'.2 with ⟨h0, _⟩ | ⟨g', cap', cur', h0, _, hg', _, _, hcs', htake'⟩
        · cases h0
        · simp only [Value.slice.injEq, Option.some.injEq, Addr.mk.injEq] at h0
          obtain ⟨⟨rfl, _⟩, _, rfl⟩ := h0
          refine ⟨hown.1, .inr ⟨g, cap, cur', rfl, hbg, hg', hnc, hcm, hcs', ?_⟩⟩
          have := congrArg (List.take (n * i.size)) htake'
          rw [List.take_take, Nat.min_eq_left (Nat.mul_le_mul_right _ (by omega))] at this
          rw [this, ← hown.1, List.take_left]
      · have holds : ∀ j u, xs[j]? = some u → w.cell? ((⟨g, 0, none⟩ : Addr).add j) = some u := hown.cells (g := g) rfl
        have h2 := run_append_grow (P := P) w t ty e i z ht hi hz ⟨g, 0, none⟩ n cap xs hown.1 holds ad m c news hl hc (by omega) (by unfold maxLen at h63; omega) (growslice_fits (by omega) hbytes)
        rw [h2] at hr
        cases hr
        exact row_keep hown ((B.refl w).drew.alloc _ _)
theorem wp_append_two {P : Program} {w : World} {o : Oper} {a : Act} {K : Act → World → Prop} {Q : Exit → Act → World → Prop} (s x : Operand) (t : TypeId)
    (ho : o.op = .call { callee := .builtin .append, args := #[s, x], argTypes := #[t, t] }) (base : Nat) (e : TypeId) (i : TypeInfo) (z : Value) (size bytes : Nat) (ht : P.underlying t = some (.slice e)) (hi : P.info? e = some i) (hz : i.zero = some z)
    (hsize : i.size = size) (hby : i.bytes = bytes) (hzs : z.cells.size = size) (hsz : 0 < size) (v : Value) (n : Nat) (xs : List Value) (hs : a.eval s = v) (hown : w.ownsRow base e size v n xs) (u : Value) (hx : a.eval x = u) (m : Nat) (news : List Value) (hu : RowIn w u m news) (hl : news.length = m * size) (h1 : ∀ x ∈ news, x.oneCell' = true)
    (h63 : n + m ≤ maxLen) (hbytes : (n + m) * bytes ≤ 140737488355328) (hbase : base ≤ w.heap.size)
    (h : ∀ oN cN w', w'.ownsRow base e size (.slice oN (n + m) cN) (n + m) (xs ++ news) → w'.ownsRow base e size v n xs → w.grownBy w' v.ownBlock → K (a.put o.dst (.slice oN (n + m) cN)) w') : Oper.wp P o a w K Q := by
  obtain ⟨oN, cN, w', hr, h2, h3⟩ := run_append_in (P := P) w base t o.type e i z size bytes ht hi hz hsize hby hzs hsz v n xs hown u m news hu hl h1 h63 hbytes hbase
  have h4 := append_old ht hi hz hsize hby hzs hsz hown hu hl h1 h63 hbytes hr h2
  unfold Oper.wp execOp
  simp only [ho, resolve, invoke, builtin, Sem.run_bind, Sem.run_pure, Result.andThen_ok, List.map_toArray, List.map_cons, List.map_nil, hs, hx, hr]
  exact h oN cN w' h2 h4 h3
end Go.Proofs.Ytkhaephmpifcmaa

namespace Go.Proofs.Ytkhaephmpifcmaa
open Go.RowKit
set_option linter.unusedVariables false
theorem rightD_fi {d : Dk} (h : rightD d = true) : ∀ f ∈ d.fs, f.n.size ≤ maxLen ∧ I64 f.r ∧ I64 f.c := by
  unfold rightD at h
  simp only [Bool.and_eq_true, decide_eq_true_eq] at h
  obtain ⟨⟨⟨_, pW⟩, pT⟩, pF⟩ := h
  intro f hf
  obtain ⟨w, hm, he, h1, h2, h3, h4⟩ := indexW_has _ _ _ _ _ (fills_each pF f hf)
  have this := apart_each pW w hm
  unfold wareOk at this
  simp only [Bool.and_eq_true, inB, decide_eq_true_eq] at this
  have hn := nameS_le this.1.1.1.1
  have hx := this.1.1.1.2
  have hy := this.1.1.2
  have e : w.n.size = f.n.size := by
    have := congrArg List.length he
    rw [Go.Lib.toList_data, Go.Lib.toList_data, Array.length_toList, Array.length_toList] at this
    exact this
  unfold maxLen I64
  omega
theorem flatP_one (S : List (Int × Int)) : ∀ u ∈ flatP S, u.oneCell' = true := by
  intro u hu
  obtain ⟨s, _, hs⟩ := List.mem_flatMap.1 hu
  simp only [List.mem_cons, List.not_mem_nil, or_false] at hs
  rcases hs with rfl | rfl <;> rfl
theorem row_in {w : World} {base e size n : Nat} {v : Value} {xs : List Value} (h : w.ownsRow base e size v n xs) : RowIn w v n xs := by
  rcases h.2 with ⟨rfl, rfl⟩ | ⟨g, cap, cur, rfl, hbg, hg, hnc, hcm, hcs, htake⟩
  · exact .inl ⟨rfl, rfl, List.eq_nil_of_length_eq_zero (by simpa using h.1)⟩
  · exact .inr ⟨⟨g, 0, none⟩, cap, rfl, h.cells (g := g) rfl⟩
theorem stA_none {w : World} {b : Nat} (hb : w.heap[b]? = some (.cells #[.slice none 0 0, .int .i64 0, .int .i64 0] 76 (0, 0))) {lo hi : Nat} (h1 : lo ≤ b) (h2 : b < hi) (h3 : hi ≤ w.heap.size) : StA 76 w lo hi b none 0 [] (0, 0) :=
  ⟨h1, h2, h3, hb, World.ownsRow_nil _ _ _ _, fun _ e => (by cases e), fun _ e => (by cases e)⟩
set_option maxHeartbeats 2000000 in
theorem knew_any (P : Bp) (w : World) (X : List Th) (h : BoardM P w 0 [] X) (hr : rightD P.d = true) (hf : P.d.fs.length ≤ 1000) :
    Calls Try.prog 9 #[.pointer (some ⟨P.b, 0, none⟩)] w fun e w' => ∃ v, e = .returned v ∧ StT 76 w' w.heap.size w'.heap.size v (startD P.d) (0, 0) ∧ B w w' := by
  have cS := dstart_any w h (rightD_fi hr) (by omega)
  generalize startD P.d = S at *
  obtain ⟨N, hN⟩ : ∃ N, S.length = N := ⟨_, rfl⟩
  rw [hN] at cS
  have HN := Lib.hid hN
  generalize P.b = b at *
  clear hN h hr hf
  go_enter Try.func9, Try.ntmps9
  go_wp2_with fail
  refine cS.mono ?_
  rintro e w1 ⟨g, rfl, hrow, q⟩
  have HX := Lib.hid (And.intro hrow q)
  clear cS hrow q
  go_wp2
  go_ret
  obtain ⟨hrow, q⟩ := HX.out
  have hN := HN.out
  have hg := own_lt hrow
  simp only at hg
  have qa : B w1 (w1.alloc (.cells #[.slice (some ⟨g, 0, none⟩) N N, .int .i64 0, .int .i64 0] 76)) := (B.refl _).alloc _ _
  have ob := obj_new w1 (.cells #[.slice (some ⟨g, 0, none⟩) N N, .int .i64 0, .int .i64 0] 76)
  have hs : (w1.alloc (.cells #[.slice (some ⟨g, 0, none⟩) N N, .int .i64 0, .int .i64 0] 76)).heap.size = w1.heap.size + 1 := by simp
  refine ⟨_, rfl, ⟨w1.heap.size, some ⟨g, 0, none⟩, N, rfl, q.below.size, by rw [hs]; omega, Nat.le_refl _, by rw [hN]; exact ob, by rw [hN]; exact own_keepBx hrow qa, fun a e => ?_, fun a e => ?_⟩, q.trans qa⟩
  · obtain rfl := Option.some.inj e; rw [hs]; simp only; omega
  · obtain rfl := Option.some.inj e; simp only; omega
theorem knew_none (w : World) :
    Calls Try.prog 9 #[.pointer none] w fun e w' => ∃ v, e = .returned v ∧ StT 76 w' w.heap.size w'.heap.size v [] (0, 0) ∧ B w w' := by
  go_enter Try.func9, Try.ntmps9
  go_wp2
  go_ret
  have hs : (w.alloc (.cells #[.slice none 0 0, .int .i64 0, .int .i64 0] 76)).heap.size = w.heap.size + 1 := by simp
  exact ⟨_, rfl, ⟨w.heap.size, none, 0, rfl, stA_none (obj_new w (.cells #[.slice none 0 0, .int .i64 0, .int .i64 0] 76)) (Nat.le_refl _) (by rw [hs]; omega) (Nat.le_refl _)⟩, (B.refl _).alloc _ _⟩
set_option maxHeartbeats 1000000 in
theorem kat_any (w : World) (lo hi : Nat) (v : Value) (W : List Sp2) (T : Sp2) (i : Int) (h : StT 76 w lo hi v W T) (hI : I64 i) (hn : W.length ≤ 1000000) :
    Calls Try.prog 15 #[v, .int .i64 i] w fun e w' => e = .returned (.tuple #[.agg #[.int .i64 (atS W i).1, .int .i64 (atS W i).2], .bool (hasS W i)]) ∧ B w w' := by
  obtain ⟨b, o, c, rfl, hA⟩ := h
  obtain ⟨N, hN⟩ : ∃ N, W.length = N := ⟨_, rfl⟩
  have k0 := obj_cell hA.obj 0
  have hb := obj_lt hA.obj
  rw [hN] at k0 hn
  by_cases hs : hasS W i = true
  · obtain ⟨i0, hlt, hg⟩ := hasS_ix hs
    obtain ⟨g, rfl, g1, g2, g3, f0, f1, z0, z1⟩ := hA.at_ hg
    have hgl : g < w.heap.size := Nat.lt_of_lt_of_le g2 hA.top
    have hat : atS W i = getS W i := by unfold atS; rw [if_pos hs]
    rw [hat, hs]
    obtain ⟨k, hk⟩ : ∃ k : Nat, i = (k : Int) := ⟨i.toNat, by omega⟩
    subst hk
    rw [show ((k : Int)).toNat = k by omega] at f0 f1 z0 z1 hlt
    generalize getS W (k : Int) = X at *
    obtain ⟨x0, x1⟩ := X
    simp only at f0 f1 ⊢
    have hnI : (k : Int) < (N : Int) := by omega
    have hk0 : (0 : Int) ≤ (k : Int) := by omega
    have hlB : decide ((N : Int) ≤ (k : Int)) = false := decide_eq_false (by omega)
    have hiB : decide ((k : Int) < 0) = false := decide_eq_false (by omega)
    clear hA hg hat hs hI i0 g1 g2 g3 z0 z1
    go_enter Try.func15, Try.ntmps15
    go_wp2
    exact bodyPost_ret (v := .tuple #[.agg #[.int .i64 x0, .int .i64 x1], .bool true]) (by simp [results, Try.results15, go_sem]) rfl ⟨rfl, (B.refl _).alloc _ _⟩
  · have hs : hasS W i = false := by simpa using hs
    have hat : atS W i = (0, 0) := by unfold atS; rw [if_neg (by rw [hs]; simp)]
    rw [hat, hs]
    have hh : i < 0 ∨ (N : Int) ≤ i := by
      unfold hasS at hs
      rw [hN] at hs
      by_cases h0 : 0 ≤ i
      · rw [decide_eq_true h0, Bool.true_and] at hs
        exact .inr (by have := of_decide_eq_false hs; omega)
      · exact .inl (by omega)
    clear hs hat hA
    by_cases h0 : i < 0
    · have hiB : decide (i < 0) = true := decide_eq_true h0
      go_enter Try.func15, Try.ntmps15
      go_wp2
      exact bodyPost_ret (v := .tuple #[.agg #[.int .i64 0, .int .i64 0], .bool false]) (by simp [results, Try.results15, go_sem]) rfl ⟨rfl, (B.refl _).alloc _ _⟩
    · have hiB : decide (i < 0) = false := decide_eq_false h0
      have hlB : decide ((N : Int) ≤ i) = true := decide_eq_true (by omega)
      go_enter Try.func15, Try.ntmps15
      go_wp2
      exact bodyPost_ret (v := .tuple #[.agg #[.int .i64 0, .int .i64 0], .bool false]) (by simp [results, Try.results15, go_sem]) rfl ⟨rfl, (B.refl _).alloc _ _⟩
theorem ktip_any (w : World) (lo hi : Nat) (v : Value) (W : List Sp2) (T : Sp2) (h : StT 76 w lo hi v W T) :
    Calls Try.prog 16 #[v] w fun e w' => e = .returned (.agg #[.int .i64 T.1, .int .i64 T.2]) ∧ B w w' := by
  obtain ⟨b, o, c, rfl, hA⟩ := h
  have k1 := obj_cell hA.obj 1
  have k2 := obj_cell hA.obj 2
  have hb := obj_lt hA.obj
  obtain ⟨t0, t1⟩ := T
  simp only at k1 k2 ⊢
  clear hA
  go_enter Try.func16, Try.ntmps16
  go_wp2
  exact bodyPost_ret (v := .agg #[.int .i64 t0, .int .i64 t1]) (by simp [results, Try.results16, go_sem]) rfl ⟨rfl, (B.refl _).alloc _ _⟩
theorem kdrop_any (w : World) (lo hi : Nat) (v : Value) (W : List Sp2) (T : Sp2) (h : StT 76 w lo hi v W T) :
    Calls Try.prog 17 #[v] w fun e w' => e = .returned (.bool (decide (T.1 = 0) && decide (T.2 = 0))) ∧ B w w' := by
  obtain ⟨b, o, c, rfl, hA⟩ := h
  have k1 := obj_cell hA.obj 1
  have k2 := obj_cell hA.obj 2
  have hb := obj_lt hA.obj
  obtain ⟨t0, t1⟩ := T
  simp only at k1 k2 ⊢
  clear hA
  by_cases h0 : t0 = 0 <;> by_cases h1 : t1 = 0
  all_goals
    go_enter Try.func17, Try.ntmps17
    go_wp2
    go_ret
    exact ⟨by simp [h0, h1], B.refl _⟩
set_option maxRecDepth 100000 in
set_option maxHeartbeats 2000000 in
theorem kclone_any (w : World) (lo hi : Nat) (v : Value) (W : List Sp2) (T : Sp2) (h : StT 76 w lo hi v W T) (hn : W.length ≤ 1000000) :
    Calls Try.prog 18 #[v] w fun e w' => ∃ v', e = .returned v' ∧ StT 76 w' w.heap.size w'.heap.size v' W T ∧ B w w' := by
  obtain ⟨b, o, c, rfl, hA⟩ := h
  obtain ⟨i0, hi0, hz0, hz1, hz2⟩ := info_of spanInfo
  have hin : RowIn w (.slice o W.length c) W.length (flatP W) := row_in hA.row
  obtain ⟨N, hN⟩ : ∃ N, W.length = N := ⟨_, rfl⟩
  have k0 := obj_cell hA.obj 0
  have k1 := obj_cell hA.obj 1
  have k2 := obj_cell hA.obj 2
  have hb := obj_lt hA.obj
  rw [hN] at k0 hn hin
  have hl1 := flatP_len W
  have hl2 := flatP_one W
  rw [hN] at hl1
  generalize hXS : flatP W = XS at *
  have HX := Lib.hid (And.intro hXS hN)
  obtain ⟨t0, t1⟩ := T
  simp only at k1 k2
  have z1 : 0 + N ≤ maxLen := by unfold maxLen; omega
  have z2 : (0 + N) * 16 ≤ 140737488355328 := by omega
  clear hA hXS hN
  go_enter Try.func18, Try.ntmps18
  go_wp2_with fail
  refine wp_region_noPanic ?_
  refine wp_region_gate (S := fun w' => w'.cell? ⟨b, 0, none⟩ = some (.slice o N c) ∧ w'.cell? ⟨b, 1, none⟩ = some (.int .i64 t0) ∧ w'.cell? ⟨b, 2, none⟩ = some (.int .i64 t1) ∧ RowIn w' (.slice o N c) N XS ∧ B w w') 10 [(0, 3), (1, 3), (2, 3), (3, 0), (5, 3), (6, 3), (7, 3), (8, 0), (4, 2), (9, 3), (10, 4), (11, 3)] [0, 1, 2, 4, 8, 0, 32, 64, 128, 272, 512, 2047] [0, 1, 2, 4, 8, 0, 32, 64, 128, 272, 512, 1024] [0, 0, 0, 3608, 0, 0, 0, 0, 3840, 0, 0, 0] (by kernel_rfl) (by kernel_rfl) (fun _ _ _ _ _ h => h) ?_ (fun hH => ?_)
  · exact ⟨k0, k1, k2, hin, (B.refl _).drew⟩
  refine wpSeqG_free (d := 3) (v := ?_) rfl rfl (by kernel_rfl) (fun w => ?_) ?_
  rotate_left
  · go_simp <;> with_reducible rfl
  dsimp only [List.set_cons_zero, List.set_cons_succ]
  refine wpSeqG_free (d := 4) (v := ?_) rfl rfl (by kernel_rfl) (fun w => ?_) ?_
  rotate_left
  · go_simp <;> with_reducible rfl
  dsimp only [List.set_cons_zero, List.set_cons_succ]
  refine wpSeqG_free (d := 5) (v := ?_) rfl rfl (by kernel_rfl) (fun w => ?_) ?_
  rotate_left
  · go_simp <;> with_reducible rfl
  dsimp only [List.set_cons_zero, List.set_cons_succ]
  refine wpSeqG_take (d := 6) (v := ?_) rfl rfl (by kernel_rfl) (fun w hS => ?_) ?_
  rotate_left
  · go_simp <;> with_reducible rfl
  dsimp only [List.set_cons_zero, List.set_cons_succ]
  refine wpSeqG_free (d := 8) (v := ?_) rfl rfl (by kernel_rfl) (fun w => ?_) ?_
  rotate_left
  · go_simp <;> with_reducible rfl
  dsimp only [List.set_cons_zero, List.set_cons_succ]
  refine wpSeqG_free (d := 9) (v := ?_) rfl rfl (by kernel_rfl) (fun w => ?_) ?_
  rotate_left
  · go_simp <;> with_reducible rfl
  dsimp only [List.set_cons_zero, List.set_cons_succ]
  refine wpSeqG_free (d := 10) (v := ?_) rfl rfl (by kernel_rfl) (fun w => ?_) ?_
  rotate_left
  · go_simp <;> with_reducible rfl
  dsimp only [List.set_cons_zero, List.set_cons_succ]
  refine wpSeqG_take (d := 11) (v := ?_) rfl rfl (by kernel_rfl) (fun w hS => ?_) ?_
  rotate_left
  · go_simp <;> with_reducible rfl
  dsimp only [List.set_cons_zero, List.set_cons_succ]
  refine wpSeqG_call rfl (by kernel_rfl) (fun K hK => ?_)
  refine wp_append_two _ _ 41 rfl w.heap.size 38 i0 _ 2 16 Try.underlying41 hi0 hz0 hz1 hz2 rfl (by omega) (.slice none 0 0) 0 [] rfl (World.ownsRow_nil _ _ _ _) (.slice o N c) rfl N XS hH.2.2.2.1 hl1 hl2 z1 z2 hH.2.2.2.2.below.size ?_
  intro oN cN w2 hown _ hgr
  have hq : B _ w2 := (B.refl _).grownBy hgr (fun _ h => by cases h)
  have HR := Lib.hid hown
  clear hown hgr
  refine hK.out _ _ ?_ (fun hH => ?_)
  · exact ⟨hq.keep hH.1, hq.keep hH.2.1, hq.keep hH.2.2.1, hH.2.2.2.1.keepB hq, hH.2.2.2.2.trans hq⟩
  clear hK
  refine wpSeqG_free (d := 12) (v := ?_) rfl rfl (by kernel_rfl) (fun w => ?_) ?_
  rotate_left
  · go_simp <;> with_reducible rfl
  dsimp only [List.set_cons_zero, List.set_cons_succ]
  refine wpSeqG_gate rfl (by kernel_rfl) (fun K hK => ?_)
  go_simp
  refine hK.out _ _ ?_
  clear hK
  refine wpSeqG_free (d := 2) (v := ?_) rfl rfl (by kernel_rfl) (fun w => ?_) ?_
  rotate_left
  · go_simp <;> with_reducible rfl
  dsimp only [List.set_cons_zero, List.set_cons_succ]
  refine wpSeqG_done ?_
  refine NoPanic.normal ?_
  go_wp2
  go_ret
  obtain ⟨hXS, hN⟩ := HX.out
  have hown := HR.out
  rw [List.nil_append, Nat.zero_add, ← hXS, ← hN] at hown
  have qa : B w2 (w2.alloc (.cells #[.slice oN N cN, .int .i64 t0, .int .i64 t1] 76)) := (B.refl _).alloc _ _
  have ob := obj_new w2 (.cells #[.slice oN N cN, .int .i64 t0, .int .i64 t1] 76)
  have hs : (w2.alloc (.cells #[.slice oN N cN, .int .i64 t0, .int .i64 t1] 76)).heap.size = w2.heap.size + 1 := by simp
  refine ⟨_, rfl, ⟨w2.heap.size, oN, cN, rfl, hH.2.2.2.2.below.size, by rw [hs]; omega, Nat.le_refl _, by rw [hN]; exact ob, own_keepBx hown qa, fun a e => ?_, fun a e => ?_⟩, hH.2.2.2.2.trans qa⟩
  · subst e; have hg := own_lt hown; rw [hs]; omega
  · subst e; have hg := own_lt hown; omega
end Go.Proofs.Ytkhaephmpifcmaa

namespace Go.Proofs.Ytkhaephmpifcmaa
open Go.RowKit
/-- The error: of a span that isn't right; of an end that 64 bits haven't; none. -/
def spE (r : Bool) (lo hi : Int) : Int := if r = true then (if I64 lo ∧ I64 hi then 0 else 21) else 20
/-- An end as it is told: the number, or nought beside an error. -/
def spV (r : Bool) (lo hi x : Int) : Int := if r = true ∧ I64 lo ∧ I64 hi then x else 0
theorem spE_wrong (lo hi : Int) : spE false lo hi = 20 := rfl
theorem spV_wrong (lo hi x : Int) : spV false lo hi x = 0 := if_neg (by simp)
theorem spE_yes {lo hi : Int} (hl : I64 lo) (hh : I64 hi) : spE true lo hi = 0 := by unfold spE; rw [if_pos rfl, if_pos ⟨hl, hh⟩]
theorem spV_yes {lo hi : Int} (x : Int) (hl : I64 lo) (hh : I64 hi) : spV true lo hi x = x := if_pos ⟨rfl, hl, hh⟩
theorem spE_no {lo hi : Int} (h : ¬ (I64 lo ∧ I64 hi)) : spE true lo hi = 21 := by unfold spE; rw [if_pos rfl, if_neg h]
theorem spV_no {lo hi : Int} (x : Int) (h : ¬ (I64 lo ∧ I64 hi)) : spV true lo hi x = 0 := if_neg (by simp; exact fun a b => h ⟨a, b⟩)
/-- How far it is, without a sign. -/
def dst (a b : Int) : Int := IntKind.u64.wrap (IntKind.u64.wrap b - IntKind.u64.wrap a)
end Go.Proofs.Ytkhaephmpifcmaa

namespace Go.Proofs.Ytkhaephmpifcmaa
open Go.RowKit
set_option linter.unusedVariables false
theorem right_any (l h : Int) (w : World) :
    Calls Try.prog 43 #[.agg #[.int .i64 l, .int .i64 h]] w fun e w' => e = .returned (.bool (decide (l ≤ h))) ∧ Q w w' := by
  go_enter Try.func43, Try.ntmps43
  go_wp2
  go_ret
  exact ⟨rfl, (Q.refl w).alloc _ _⟩
theorem least_any (sl sh v : Int) (w : World) :
    Calls Try.prog 27 #[.agg #[.int .i64 sl, .int .i64 sh], .int .i64 v] w fun e w' => e = .returned (.agg #[.int .i64 (max sl v), .int .i64 (max sh v)]) ∧ Q w w' := by
  by_cases c : v ≤ sl <;> by_cases d : v ≤ sh
  · rw [show max sl v = sl by omega, show max sh v = sh by omega]
    go_enter Try.func27, Try.ntmps27
    go_wp2
    exact bodyPost_ret (v := .agg #[.int .i64 sl, .int .i64 sh]) (by simp [results, Try.results27, go_sem] <;> omega) rfl ⟨rfl, ((Q.refl w).alloc _ _).alloc _ _⟩
  · rw [show max sl v = sl by omega, show max sh v = v by omega]
    go_enter Try.func27, Try.ntmps27
    go_wp2
    exact bodyPost_ret (v := .agg #[.int .i64 sl, .int .i64 v]) (by simp [results, Try.results27, go_sem] <;> omega) rfl ⟨rfl, ((Q.refl w).alloc _ _).alloc _ _⟩
  · rw [show max sl v = v by omega, show max sh v = sh by omega]
    go_enter Try.func27, Try.ntmps27
    go_wp2
    exact bodyPost_ret (v := .agg #[.int .i64 v, .int .i64 sh]) (by simp [results, Try.results27, go_sem] <;> omega) rfl ⟨rfl, ((Q.refl w).alloc _ _).alloc _ _⟩
  · rw [show max sl v = v by omega, show max sh v = v by omega]
    go_enter Try.func27, Try.ntmps27
    go_wp2
    exact bodyPost_ret (v := .agg #[.int .i64 v, .int .i64 v]) (by simp [results, Try.results27, go_sem] <;> omega) rfl ⟨rfl, ((Q.refl w).alloc _ _).alloc _ _⟩
end Go.Proofs.Ytkhaephmpifcmaa

namespace Go.Proofs.Ytkhaephmpifcmaa
open Go.RowKit
theorem add_any (a b : Int) (ha : I64 a) (hb : I64 b) (w : World) :
    Calls Try.prog 45 #[.int .i64 a, .int .i64 b] w fun e w' => e = .returned (.tuple #[.int .i64 (qv (a + b)), .int .i64 (qe (a + b))]) ∧ w = w' := by
  obtain ⟨h1, h2⟩ := add_over a b ha hb
  by_cases h : I64 (a + b)
  · rw [qv_yes h, qe_yes h]
    have h2' := h2 h
    have h3 : ¬ _ := fun x => (h1.1 x) h
    have hh : -9223372036854775808 ≤ a + b ∧ a + b ≤ 9223372036854775807 := h
    clear h1 h2 ha hb h
    rw [h2'] at h3
    clear h2'
    obtain ⟨hl, hr⟩ := hh
    go_enter Try.func45, Try.ntmps45
    go_wp2
    go_ret2
    exact ⟨rfl, rfl⟩
  · rw [qv_no h, qe_no h]
    have h3 := h1.2 h
    clear h1 h2 ha hb h
    go_enter Try.func45, Try.ntmps45
    go_wp2
    go_ret2
    exact ⟨rfl, rfl⟩
theorem sub_any (a b : Int) (ha : I64 a) (hb : I64 b) (w : World) :
    Calls Try.prog 44 #[.int .i64 a, .int .i64 b] w fun e w' => e = .returned (.tuple #[.int .i64 (qv (a - b)), .int .i64 (qe (a - b))]) ∧ w = w' := by
  obtain ⟨h1, h2⟩ := sub_over a b ha hb
  by_cases h : I64 (a - b)
  · rw [qv_yes h, qe_yes h]
    have h2' := h2 h
    have h3 : ¬ _ := fun x => (h1.1 x) h
    have hh : -9223372036854775808 ≤ a - b ∧ a - b ≤ 9223372036854775807 := h
    clear h1 h2 ha hb h
    rw [h2'] at h3
    clear h2'
    obtain ⟨hl, hr⟩ := hh
    go_enter Try.func44, Try.ntmps44
    go_wp2
    go_ret2
    exact ⟨rfl, rfl⟩
  · rw [qv_no h, qe_no h]
    have h3 := h1.2 h
    clear h1 h2 ha hb h
    go_enter Try.func44, Try.ntmps44
    go_wp2
    go_ret2
    exact ⟨rfl, rfl⟩
end Go.Proofs.Ytkhaephmpifcmaa

namespace Go.Proofs.Ytkhaephmpifcmaa
open Go.RowKit
theorem sadd_any (al ah bl bh : Int) (hal : I64 al) (hah : I64 ah) (hbl : I64 bl) (hbh : I64 bh) (w : World) :
    Calls Try.prog 29 #[.agg #[.int .i64 al, .int .i64 ah], .agg #[.int .i64 bl, .int .i64 bh]] w fun e w' => e = .returned (.tuple #[.agg #[.int .i64 (spV (decide (al ≤ ah) && decide (bl ≤ bh)) (al + bl) (ah + bh) (al + bl)), .int .i64 (spV (decide (al ≤ ah) && decide (bl ≤ bh)) (al + bl) (ah + bh) (ah + bh))], .int .i64 (spE (decide (al ≤ ah) && decide (bl ≤ bh)) (al + bl) (ah + bh))]) ∧ Q w w' := by
  have c0 := fun w => right_any al ah w
  have c1 := fun w => right_any bl bh w
  have c2 := fun w => add_any al bl hal hbl w
  have c3 := fun w => add_any ah bh hah hbh w
  clear hal hah hbl hbh
  by_cases r0 : al ≤ ah
  · rw [decide_eq_true r0, Bool.true_and]
    rw [decide_eq_true r0] at c0
    by_cases r1 : bl ≤ bh
    · rw [decide_eq_true r1]
      rw [decide_eq_true r1] at c1
      clear r0 r1
      by_cases i1 : I64 (al + bl)
      · rw [qv_yes i1, qe_yes i1] at c2
        by_cases i2 : I64 (ah + bh)
        · rw [qv_yes i2, qe_yes i2] at c3
          rw [spV_yes _ i1 i2, spV_yes _ i1 i2, spE_yes i1 i2]
          generalize al + bl = X at *
          generalize ah + bh = Y at *
          clear i1 i2
          go_enter Try.func29, Try.ntmps29
          go_wp2_with fail
          refine (c0 _).mono ?_
          rintro e w1 ⟨rfl, h1⟩
          have a0 := h1.keep (p := ⟨w.heap.size, 0, none⟩) (v := .int .i64 al) (by simp [go_sem])
          have a1 := h1.keep (p := ⟨w.heap.size, 1, none⟩) (v := .int .i64 ah) (by simp [go_sem])
          have b0 := h1.keep (p := ⟨w.heap.size + 1, 0, none⟩) (v := .int .i64 bl) (by simp [go_sem])
          have b1 := h1.keep (p := ⟨w.heap.size + 1, 1, none⟩) (v := .int .i64 bh) (by simp [go_sem])
          have z0 := h1.keep (p := ⟨w.heap.size + 1 + 1, 0, none⟩) (v := .int .i64 0) (by simp [go_sem])
          have z1 := h1.keep (p := ⟨w.heap.size + 1 + 1, 1, none⟩) (v := .int .i64 0) (by simp [go_sem])
          have f0 : w1.frozen? ⟨w.heap.size + 1 + 1, 0, none⟩ = false := by rw [h1.marks]; simp [go_sem]
          have f1 : w1.frozen? ⟨w.heap.size + 1 + 1, 1, none⟩ = false := by rw [h1.marks]; simp [go_sem]
          have hz : w.heap.size + 1 + 1 < w1.heap.size := by have := h1.below.size; simp at this; omega
          have g1 := (((((Q.refl w).alloc _ _).alloc _ _).alloc _ _).trans h1)
          clear h1
          go_wp2_with fail
          refine (c1 _).mono ?_
          rintro e w2 ⟨rfl, h2⟩
          replace a0 := h2.keep a0
          replace a1 := h2.keep a1
          replace b0 := h2.keep b0
          replace b1 := h2.keep b1
          replace z0 := h2.keep z0
          replace z1 := h2.keep z1
          replace f0 : w2.frozen? ⟨w.heap.size + 1 + 1, 0, none⟩ = false := by rw [h2.marks]; exact f0
          replace f1 : w2.frozen? ⟨w.heap.size + 1 + 1, 1, none⟩ = false := by rw [h2.marks]; exact f1
          replace hz : w.heap.size + 1 + 1 < w2.heap.size := Nat.lt_of_lt_of_le hz h2.below.size
          replace g1 := g1.trans h2
          clear h2
          go_wp2_with fail
          refine (c2 _).mono ?_
          rintro e w3 ⟨rfl, rfl⟩
          go_wp2_with fail
          refine (c3 _).mono ?_
          rintro e w3 ⟨rfl, rfl⟩
          go_wp2
          exact bodyPost_ret (v := .tuple #[.agg #[.int .i64 X, .int .i64 Y], .int .i64 0]) (by simp [results, Try.results29, go_sem, *]) rfl ⟨rfl, (g1.setCell (by simp; omega) _).setCell (by simp; omega) _⟩
        · rw [qv_no i2, qe_no i2] at c3
          have n := fun x : I64 (al + bl) ∧ I64 (ah + bh) => i2 x.2
          rw [spV_no _ n, spV_no _ n, spE_no n]
          generalize al + bl = X at *
          clear i1 i2 n
          go_enter Try.func29, Try.ntmps29
          go_wp2_with fail
          refine (c0 _).mono ?_
          rintro e w1 ⟨rfl, h1⟩
          have a0 := h1.keep (p := ⟨w.heap.size, 0, none⟩) (v := .int .i64 al) (by simp [go_sem])
          have a1 := h1.keep (p := ⟨w.heap.size, 1, none⟩) (v := .int .i64 ah) (by simp [go_sem])
          have b0 := h1.keep (p := ⟨w.heap.size + 1, 0, none⟩) (v := .int .i64 bl) (by simp [go_sem])
          have b1 := h1.keep (p := ⟨w.heap.size + 1, 1, none⟩) (v := .int .i64 bh) (by simp [go_sem])
          have z0 := h1.keep (p := ⟨w.heap.size + 1 + 1, 0, none⟩) (v := .int .i64 0) (by simp [go_sem])
          have z1 := h1.keep (p := ⟨w.heap.size + 1 + 1, 1, none⟩) (v := .int .i64 0) (by simp [go_sem])
          have f0 : w1.frozen? ⟨w.heap.size + 1 + 1, 0, none⟩ = false := by rw [h1.marks]; simp [go_sem]
          have f1 : w1.frozen? ⟨w.heap.size + 1 + 1, 1, none⟩ = false := by rw [h1.marks]; simp [go_sem]
          have hz : w.heap.size + 1 + 1 < w1.heap.size := by have := h1.below.size; simp at this; omega
          have g1 := (((((Q.refl w).alloc _ _).alloc _ _).alloc _ _).trans h1)
          clear h1
          go_wp2_with fail
          refine (c1 _).mono ?_
          rintro e w2 ⟨rfl, h2⟩
          replace a0 := h2.keep a0
          replace a1 := h2.keep a1
          replace b0 := h2.keep b0
          replace b1 := h2.keep b1
          replace z0 := h2.keep z0
          replace z1 := h2.keep z1
          replace f0 : w2.frozen? ⟨w.heap.size + 1 + 1, 0, none⟩ = false := by rw [h2.marks]; exact f0
          replace f1 : w2.frozen? ⟨w.heap.size + 1 + 1, 1, none⟩ = false := by rw [h2.marks]; exact f1
          replace hz : w.heap.size + 1 + 1 < w2.heap.size := Nat.lt_of_lt_of_le hz h2.below.size
          replace g1 := g1.trans h2
          clear h2
          go_wp2_with fail
          refine (c2 _).mono ?_
          rintro e w3 ⟨rfl, rfl⟩
          go_wp2_with fail
          refine (c3 _).mono ?_
          rintro e w3 ⟨rfl, rfl⟩
          go_wp2
          exact bodyPost_ret (v := .tuple #[.agg #[.int .i64 0, .int .i64 0], .int .i64 21]) (by simp [results, Try.results29, go_sem, *]) rfl ⟨rfl, (g1.setCell (by simp; omega) _).setCell (by simp; omega) _⟩
      · rw [qv_no i1, qe_no i1] at c2
        have n := fun x : I64 (al + bl) ∧ I64 (ah + bh) => i1 x.1
        rw [spV_no _ n, spV_no _ n, spE_no n]
        clear i1 n c3
        go_enter Try.func29, Try.ntmps29
        go_wp2_with fail
        refine (c0 _).mono ?_
        rintro e w1 ⟨rfl, h1⟩
        have a0 := h1.keep (p := ⟨w.heap.size, 0, none⟩) (v := .int .i64 al) (by simp [go_sem])
        have a1 := h1.keep (p := ⟨w.heap.size, 1, none⟩) (v := .int .i64 ah) (by simp [go_sem])
        have b0 := h1.keep (p := ⟨w.heap.size + 1, 0, none⟩) (v := .int .i64 bl) (by simp [go_sem])
        have b1 := h1.keep (p := ⟨w.heap.size + 1, 1, none⟩) (v := .int .i64 bh) (by simp [go_sem])
        have z0 := h1.keep (p := ⟨w.heap.size + 1 + 1, 0, none⟩) (v := .int .i64 0) (by simp [go_sem])
        have z1 := h1.keep (p := ⟨w.heap.size + 1 + 1, 1, none⟩) (v := .int .i64 0) (by simp [go_sem])
        have f0 : w1.frozen? ⟨w.heap.size + 1 + 1, 0, none⟩ = false := by rw [h1.marks]; simp [go_sem]
        have f1 : w1.frozen? ⟨w.heap.size + 1 + 1, 1, none⟩ = false := by rw [h1.marks]; simp [go_sem]
        have hz : w.heap.size + 1 + 1 < w1.heap.size := by have := h1.below.size; simp at this; omega
        have g1 := (((((Q.refl w).alloc _ _).alloc _ _).alloc _ _).trans h1)
        clear h1
        go_wp2_with fail
        refine (c1 _).mono ?_
        rintro e w2 ⟨rfl, h2⟩
        replace a0 := h2.keep a0
        replace a1 := h2.keep a1
        replace b0 := h2.keep b0
        replace b1 := h2.keep b1
        replace z0 := h2.keep z0
        replace z1 := h2.keep z1
        replace f0 : w2.frozen? ⟨w.heap.size + 1 + 1, 0, none⟩ = false := by rw [h2.marks]; exact f0
        replace f1 : w2.frozen? ⟨w.heap.size + 1 + 1, 1, none⟩ = false := by rw [h2.marks]; exact f1
        replace hz : w.heap.size + 1 + 1 < w2.heap.size := Nat.lt_of_lt_of_le hz h2.below.size
        replace g1 := g1.trans h2
        clear h2
        go_wp2_with fail
        refine (c2 _).mono ?_
        rintro e w3 ⟨rfl, rfl⟩
        go_wp2
        exact bodyPost_ret (v := .tuple #[.agg #[.int .i64 0, .int .i64 0], .int .i64 21]) (by simp [results, Try.results29, go_sem, *]) rfl ⟨rfl, (g1.setCell (by simp; omega) _).setCell (by simp; omega) _⟩
    · rw [decide_eq_false r1, spV_wrong, spV_wrong, spE_wrong]
      rw [decide_eq_false r1] at c1
      clear r0 r1 c2 c3
      go_enter Try.func29, Try.ntmps29
      go_wp2_with fail
      refine (c0 _).mono ?_
      rintro e w1 ⟨rfl, h1⟩
      have a0 := h1.keep (p := ⟨w.heap.size, 0, none⟩) (v := .int .i64 al) (by simp [go_sem])
      have a1 := h1.keep (p := ⟨w.heap.size, 1, none⟩) (v := .int .i64 ah) (by simp [go_sem])
      have b0 := h1.keep (p := ⟨w.heap.size + 1, 0, none⟩) (v := .int .i64 bl) (by simp [go_sem])
      have b1 := h1.keep (p := ⟨w.heap.size + 1, 1, none⟩) (v := .int .i64 bh) (by simp [go_sem])
      have z0 := h1.keep (p := ⟨w.heap.size + 1 + 1, 0, none⟩) (v := .int .i64 0) (by simp [go_sem])
      have z1 := h1.keep (p := ⟨w.heap.size + 1 + 1, 1, none⟩) (v := .int .i64 0) (by simp [go_sem])
      have f0 : w1.frozen? ⟨w.heap.size + 1 + 1, 0, none⟩ = false := by rw [h1.marks]; simp [go_sem]
      have f1 : w1.frozen? ⟨w.heap.size + 1 + 1, 1, none⟩ = false := by rw [h1.marks]; simp [go_sem]
      have hz : w.heap.size + 1 + 1 < w1.heap.size := by have := h1.below.size; simp at this; omega
      have g1 := (((((Q.refl w).alloc _ _).alloc _ _).alloc _ _).trans h1)
      clear h1
      go_wp2_with fail
      refine (c1 _).mono ?_
      rintro e w2 ⟨rfl, h2⟩
      replace a0 := h2.keep a0
      replace a1 := h2.keep a1
      replace b0 := h2.keep b0
      replace b1 := h2.keep b1
      replace z0 := h2.keep z0
      replace z1 := h2.keep z1
      replace f0 : w2.frozen? ⟨w.heap.size + 1 + 1, 0, none⟩ = false := by rw [h2.marks]; exact f0
      replace f1 : w2.frozen? ⟨w.heap.size + 1 + 1, 1, none⟩ = false := by rw [h2.marks]; exact f1
      replace hz : w.heap.size + 1 + 1 < w2.heap.size := Nat.lt_of_lt_of_le hz h2.below.size
      replace g1 := g1.trans h2
      clear h2
      go_wp2
      exact bodyPost_ret (v := .tuple #[.agg #[.int .i64 0, .int .i64 0], .int .i64 20]) (by simp [results, Try.results29, go_sem, *]) rfl ⟨rfl, (g1.setCell (by simp; omega) _).setCell (by simp; omega) _⟩
  · rw [decide_eq_false r0, Bool.false_and, spV_wrong, spV_wrong, spE_wrong]
    rw [decide_eq_false r0] at c0
    clear r0 c1 c2 c3
    go_enter Try.func29, Try.ntmps29
    go_wp2_with fail
    refine (c0 _).mono ?_
    rintro e w1 ⟨rfl, h1⟩
    have a0 := h1.keep (p := ⟨w.heap.size, 0, none⟩) (v := .int .i64 al) (by simp [go_sem])
    have a1 := h1.keep (p := ⟨w.heap.size, 1, none⟩) (v := .int .i64 ah) (by simp [go_sem])
    have b0 := h1.keep (p := ⟨w.heap.size + 1, 0, none⟩) (v := .int .i64 bl) (by simp [go_sem])
    have b1 := h1.keep (p := ⟨w.heap.size + 1, 1, none⟩) (v := .int .i64 bh) (by simp [go_sem])
    have z0 := h1.keep (p := ⟨w.heap.size + 1 + 1, 0, none⟩) (v := .int .i64 0) (by simp [go_sem])
    have z1 := h1.keep (p := ⟨w.heap.size + 1 + 1, 1, none⟩) (v := .int .i64 0) (by simp [go_sem])
    have f0 : w1.frozen? ⟨w.heap.size + 1 + 1, 0, none⟩ = false := by rw [h1.marks]; simp [go_sem]
    have f1 : w1.frozen? ⟨w.heap.size + 1 + 1, 1, none⟩ = false := by rw [h1.marks]; simp [go_sem]
    have hz : w.heap.size + 1 + 1 < w1.heap.size := by have := h1.below.size; simp at this; omega
    have g1 := (((((Q.refl w).alloc _ _).alloc _ _).alloc _ _).trans h1)
    clear h1
    go_wp2
    exact bodyPost_ret (v := .tuple #[.agg #[.int .i64 0, .int .i64 0], .int .i64 20]) (by simp [results, Try.results29, go_sem, *]) rfl ⟨rfl, (g1.setCell (by simp; omega) _).setCell (by simp; omega) _⟩
theorem ssub_any (al ah bl bh : Int) (hal : I64 al) (hah : I64 ah) (hbl : I64 bl) (hbh : I64 bh) (w : World) :
    Calls Try.prog 28 #[.agg #[.int .i64 al, .int .i64 ah], .agg #[.int .i64 bl, .int .i64 bh]] w fun e w' => e = .returned (.tuple #[.agg #[.int .i64 (spV (decide (al ≤ ah) && decide (bl ≤ bh)) (al - bh) (ah - bl) (al - bh)), .int .i64 (spV (decide (al ≤ ah) && decide (bl ≤ bh)) (al - bh) (ah - bl) (ah - bl))], .int .i64 (spE (decide (al ≤ ah) && decide (bl ≤ bh)) (al - bh) (ah - bl))]) ∧ Q w w' := by
  have c0 := fun w => right_any al ah w
  have c1 := fun w => right_any bl bh w
  have c2 := fun w => sub_any al bh hal hbh w
  have c3 := fun w => sub_any ah bl hah hbl w
  clear hal hah hbl hbh
  by_cases r0 : al ≤ ah
  · rw [decide_eq_true r0, Bool.true_and]
    rw [decide_eq_true r0] at c0
    by_cases r1 : bl ≤ bh
    · rw [decide_eq_true r1]
      rw [decide_eq_true r1] at c1
      clear r0 r1
      by_cases i1 : I64 (al - bh)
      · rw [qv_yes i1, qe_yes i1] at c2
        by_cases i2 : I64 (ah - bl)
        · rw [qv_yes i2, qe_yes i2] at c3
          rw [spV_yes _ i1 i2, spV_yes _ i1 i2, spE_yes i1 i2]
          generalize al - bh = X at *
          generalize ah - bl = Y at *
          clear i1 i2
          go_enter Try.func28, Try.ntmps28
          go_wp2_with fail
          refine (c0 _).mono ?_
          rintro e w1 ⟨rfl, h1⟩
          have a0 := h1.keep (p := ⟨w.heap.size, 0, none⟩) (v := .int .i64 al) (by simp [go_sem])
          have a1 := h1.keep (p := ⟨w.heap.size, 1, none⟩) (v := .int .i64 ah) (by simp [go_sem])
          have b0 := h1.keep (p := ⟨w.heap.size + 1, 0, none⟩) (v := .int .i64 bl) (by simp [go_sem])
          have b1 := h1.keep (p := ⟨w.heap.size + 1, 1, none⟩) (v := .int .i64 bh) (by simp [go_sem])
          have z0 := h1.keep (p := ⟨w.heap.size + 1 + 1, 0, none⟩) (v := .int .i64 0) (by simp [go_sem])
          have z1 := h1.keep (p := ⟨w.heap.size + 1 + 1, 1, none⟩) (v := .int .i64 0) (by simp [go_sem])
          have f0 : w1.frozen? ⟨w.heap.size + 1 + 1, 0, none⟩ = false := by rw [h1.marks]; simp [go_sem]
          have f1 : w1.frozen? ⟨w.heap.size + 1 + 1, 1, none⟩ = false := by rw [h1.marks]; simp [go_sem]
          have hz : w.heap.size + 1 + 1 < w1.heap.size := by have := h1.below.size; simp at this; omega
          have g1 := (((((Q.refl w).alloc _ _).alloc _ _).alloc _ _).trans h1)
          clear h1
          go_wp2_with fail
          refine (c1 _).mono ?_
          rintro e w2 ⟨rfl, h2⟩
          replace a0 := h2.keep a0
          replace a1 := h2.keep a1
          replace b0 := h2.keep b0
          replace b1 := h2.keep b1
          replace z0 := h2.keep z0
          replace z1 := h2.keep z1
          replace f0 : w2.frozen? ⟨w.heap.size + 1 + 1, 0, none⟩ = false := by rw [h2.marks]; exact f0
          replace f1 : w2.frozen? ⟨w.heap.size + 1 + 1, 1, none⟩ = false := by rw [h2.marks]; exact f1
          replace hz : w.heap.size + 1 + 1 < w2.heap.size := Nat.lt_of_lt_of_le hz h2.below.size
          replace g1 := g1.trans h2
          clear h2
          go_wp2_with fail
          refine (c2 _).mono ?_
          rintro e w3 ⟨rfl, rfl⟩
          go_wp2_with fail
          refine (c3 _).mono ?_
          rintro e w3 ⟨rfl, rfl⟩
          go_wp2
          exact bodyPost_ret (v := .tuple #[.agg #[.int .i64 X, .int .i64 Y], .int .i64 0]) (by simp [results, Try.results28, go_sem, *]) rfl ⟨rfl, (g1.setCell (by simp; omega) _).setCell (by simp; omega) _⟩
        · rw [qv_no i2, qe_no i2] at c3
          have n := fun x : I64 (al - bh) ∧ I64 (ah - bl) => i2 x.2
          rw [spV_no _ n, spV_no _ n, spE_no n]
          generalize al - bh = X at *
          clear i1 i2 n
          go_enter Try.func28, Try.ntmps28
          go_wp2_with fail
          refine (c0 _).mono ?_
          rintro e w1 ⟨rfl, h1⟩
          have a0 := h1.keep (p := ⟨w.heap.size, 0, none⟩) (v := .int .i64 al) (by simp [go_sem])
          have a1 := h1.keep (p := ⟨w.heap.size, 1, none⟩) (v := .int .i64 ah) (by simp [go_sem])
          have b0 := h1.keep (p := ⟨w.heap.size + 1, 0, none⟩) (v := .int .i64 bl) (by simp [go_sem])
          have b1 := h1.keep (p := ⟨w.heap.size + 1, 1, none⟩) (v := .int .i64 bh) (by simp [go_sem])
          have z0 := h1.keep (p := ⟨w.heap.size + 1 + 1, 0, none⟩) (v := .int .i64 0) (by simp [go_sem])
          have z1 := h1.keep (p := ⟨w.heap.size + 1 + 1, 1, none⟩) (v := .int .i64 0) (by simp [go_sem])
          have f0 : w1.frozen? ⟨w.heap.size + 1 + 1, 0, none⟩ = false := by rw [h1.marks]; simp [go_sem]
          have f1 : w1.frozen? ⟨w.heap.size + 1 + 1, 1, none⟩ = false := by rw [h1.marks]; simp [go_sem]
          have hz : w.heap.size + 1 + 1 < w1.heap.size := by have := h1.below.size; simp at this; omega
          have g1 := (((((Q.refl w).alloc _ _).alloc _ _).alloc _ _).trans h1)
          clear h1
          go_wp2_with fail
          refine (c1 _).mono ?_
          rintro e w2 ⟨rfl, h2⟩
          replace a0 := h2.keep a0
          replace a1 := h2.keep a1
          replace b0 := h2.keep b0
          replace b1 := h2.keep b1
          replace z0 := h2.keep z0
          replace z1 := h2.keep z1
          replace f0 : w2.frozen? ⟨w.heap.size + 1 + 1, 0, none⟩ = false := by rw [h2.marks]; exact f0
          replace f1 : w2.frozen? ⟨w.heap.size + 1 + 1, 1, none⟩ = false := by rw [h2.marks]; exact f1
          replace hz : w.heap.size + 1 + 1 < w2.heap.size := Nat.lt_of_lt_of_le hz h2.below.size
          replace g1 := g1.trans h2
          clear h2
          go_wp2_with fail
          refine (c2 _).mono ?_
          rintro e w3 ⟨rfl, rfl⟩
          go_wp2_with fail
          refine (c3 _).mono ?_
          rintro e w3 ⟨rfl, rfl⟩
          go_wp2
          exact bodyPost_ret (v := .tuple #[.agg #[.int .i64 0, .int .i64 0], .int .i64 21]) (by simp [results, Try.results28, go_sem, *]) rfl ⟨rfl, (g1.setCell (by simp; omega) _).setCell (by simp; omega) _⟩
      · rw [qv_no i1, qe_no i1] at c2
        have n := fun x : I64 (al - bh) ∧ I64 (ah - bl) => i1 x.1
        rw [spV_no _ n, spV_no _ n, spE_no n]
        clear i1 n c3
        go_enter Try.func28, Try.ntmps28
        go_wp2_with fail
        refine (c0 _).mono ?_
        rintro e w1 ⟨rfl, h1⟩
        have a0 := h1.keep (p := ⟨w.heap.size, 0, none⟩) (v := .int .i64 al) (by simp [go_sem])
        have a1 := h1.keep (p := ⟨w.heap.size, 1, none⟩) (v := .int .i64 ah) (by simp [go_sem])
        have b0 := h1.keep (p := ⟨w.heap.size + 1, 0, none⟩) (v := .int .i64 bl) (by simp [go_sem])
        have b1 := h1.keep (p := ⟨w.heap.size + 1, 1, none⟩) (v := .int .i64 bh) (by simp [go_sem])
        have z0 := h1.keep (p := ⟨w.heap.size + 1 + 1, 0, none⟩) (v := .int .i64 0) (by simp [go_sem])
        have z1 := h1.keep (p := ⟨w.heap.size + 1 + 1, 1, none⟩) (v := .int .i64 0) (by simp [go_sem])
        have f0 : w1.frozen? ⟨w.heap.size + 1 + 1, 0, none⟩ = false := by rw [h1.marks]; simp [go_sem]
        have f1 : w1.frozen? ⟨w.heap.size + 1 + 1, 1, none⟩ = false := by rw [h1.marks]; simp [go_sem]
        have hz : w.heap.size + 1 + 1 < w1.heap.size := by have := h1.below.size; simp at this; omega
        have g1 := (((((Q.refl w).alloc _ _).alloc _ _).alloc _ _).trans h1)
        clear h1
        go_wp2_with fail
        refine (c1 _).mono ?_
        rintro e w2 ⟨rfl, h2⟩
        replace a0 := h2.keep a0
        replace a1 := h2.keep a1
        replace b0 := h2.keep b0
        replace b1 := h2.keep b1
        replace z0 := h2.keep z0
        replace z1 := h2.keep z1
        replace f0 : w2.frozen? ⟨w.heap.size + 1 + 1, 0, none⟩ = false := by rw [h2.marks]; exact f0
        replace f1 : w2.frozen? ⟨w.heap.size + 1 + 1, 1, none⟩ = false := by rw [h2.marks]; exact f1
        replace hz : w.heap.size + 1 + 1 < w2.heap.size := Nat.lt_of_lt_of_le hz h2.below.size
        replace g1 := g1.trans h2
        clear h2
        go_wp2_with fail
        refine (c2 _).mono ?_
        rintro e w3 ⟨rfl, rfl⟩
        go_wp2
        exact bodyPost_ret (v := .tuple #[.agg #[.int .i64 0, .int .i64 0], .int .i64 21]) (by simp [results, Try.results28, go_sem, *]) rfl ⟨rfl, (g1.setCell (by simp; omega) _).setCell (by simp; omega) _⟩
    · rw [decide_eq_false r1, spV_wrong, spV_wrong, spE_wrong]
      rw [decide_eq_false r1] at c1
      clear r0 r1 c2 c3
      go_enter Try.func28, Try.ntmps28
      go_wp2_with fail
      refine (c0 _).mono ?_
      rintro e w1 ⟨rfl, h1⟩
      have a0 := h1.keep (p := ⟨w.heap.size, 0, none⟩) (v := .int .i64 al) (by simp [go_sem])
      have a1 := h1.keep (p := ⟨w.heap.size, 1, none⟩) (v := .int .i64 ah) (by simp [go_sem])
      have b0 := h1.keep (p := ⟨w.heap.size + 1, 0, none⟩) (v := .int .i64 bl) (by simp [go_sem])
      have b1 := h1.keep (p := ⟨w.heap.size + 1, 1, none⟩) (v := .int .i64 bh) (by simp [go_sem])
      have z0 := h1.keep (p := ⟨w.heap.size + 1 + 1, 0, none⟩) (v := .int .i64 0) (by simp [go_sem])
      have z1 := h1.keep (p := ⟨w.heap.size + 1 + 1, 1, none⟩) (v := .int .i64 0) (by simp [go_sem])
      have f0 : w1.frozen? ⟨w.heap.size + 1 + 1, 0, none⟩ = false := by rw [h1.marks]; simp [go_sem]
      have f1 : w1.frozen? ⟨w.heap.size + 1 + 1, 1, none⟩ = false := by rw [h1.marks]; simp [go_sem]
      have hz : w.heap.size + 1 + 1 < w1.heap.size := by have := h1.below.size; simp at this; omega
      have g1 := (((((Q.refl w).alloc _ _).alloc _ _).alloc _ _).trans h1)
      clear h1
      go_wp2_with fail
      refine (c1 _).mono ?_
      rintro e w2 ⟨rfl, h2⟩
      replace a0 := h2.keep a0
      replace a1 := h2.keep a1
      replace b0 := h2.keep b0
      replace b1 := h2.keep b1
      replace z0 := h2.keep z0
      replace z1 := h2.keep z1
      replace f0 : w2.frozen? ⟨w.heap.size + 1 + 1, 0, none⟩ = false := by rw [h2.marks]; exact f0
      replace f1 : w2.frozen? ⟨w.heap.size + 1 + 1, 1, none⟩ = false := by rw [h2.marks]; exact f1
      replace hz : w.heap.size + 1 + 1 < w2.heap.size := Nat.lt_of_lt_of_le hz h2.below.size
      replace g1 := g1.trans h2
      clear h2
      go_wp2
      exact bodyPost_ret (v := .tuple #[.agg #[.int .i64 0, .int .i64 0], .int .i64 20]) (by simp [results, Try.results28, go_sem, *]) rfl ⟨rfl, (g1.setCell (by simp; omega) _).setCell (by simp; omega) _⟩
  · rw [decide_eq_false r0, Bool.false_and, spV_wrong, spV_wrong, spE_wrong]
    rw [decide_eq_false r0] at c0
    clear r0 c1 c2 c3
    go_enter Try.func28, Try.ntmps28
    go_wp2_with fail
    refine (c0 _).mono ?_
    rintro e w1 ⟨rfl, h1⟩
    have a0 := h1.keep (p := ⟨w.heap.size, 0, none⟩) (v := .int .i64 al) (by simp [go_sem])
    have a1 := h1.keep (p := ⟨w.heap.size, 1, none⟩) (v := .int .i64 ah) (by simp [go_sem])
    have b0 := h1.keep (p := ⟨w.heap.size + 1, 0, none⟩) (v := .int .i64 bl) (by simp [go_sem])
    have b1 := h1.keep (p := ⟨w.heap.size + 1, 1, none⟩) (v := .int .i64 bh) (by simp [go_sem])
    have z0 := h1.keep (p := ⟨w.heap.size + 1 + 1, 0, none⟩) (v := .int .i64 0) (by simp [go_sem])
    have z1 := h1.keep (p := ⟨w.heap.size + 1 + 1, 1, none⟩) (v := .int .i64 0) (by simp [go_sem])
    have f0 : w1.frozen? ⟨w.heap.size + 1 + 1, 0, none⟩ = false := by rw [h1.marks]; simp [go_sem]
    have f1 : w1.frozen? ⟨w.heap.size + 1 + 1, 1, none⟩ = false := by rw [h1.marks]; simp [go_sem]
    have hz : w.heap.size + 1 + 1 < w1.heap.size := by have := h1.below.size; simp at this; omega
    have g1 := (((((Q.refl w).alloc _ _).alloc _ _).alloc _ _).trans h1)
    clear h1
    go_wp2
    exact bodyPost_ret (v := .tuple #[.agg #[.int .i64 0, .int .i64 0], .int .i64 20]) (by simp [results, Try.results28, go_sem, *]) rfl ⟨rfl, (g1.setCell (by simp; omega) _).setCell (by simp; omega) _⟩
theorem swide_any (sl sh by_ : Int) (hsl : I64 sl) (hsh : I64 sh) (hby : I64 by_) (w : World) :
    Calls Try.prog 26 #[.agg #[.int .i64 sl, .int .i64 sh], .int .i64 by_] w fun e w' => e = .returned (.tuple #[.agg #[.int .i64 (spV (decide (sl ≤ sh) && decide (0 ≤ by_)) (sl - by_) (sh + by_) (sl - by_)), .int .i64 (spV (decide (sl ≤ sh) && decide (0 ≤ by_)) (sl - by_) (sh + by_) (sh + by_))], .int .i64 (spE (decide (sl ≤ sh) && decide (0 ≤ by_)) (sl - by_) (sh + by_))]) ∧ Q w w' := by
  by_cases n : by_ < 0
  · rw [decide_eq_false (show ¬ 0 ≤ by_ by omega), Bool.and_false, spV_wrong, spV_wrong, spE_wrong]
    clear hsl hsh hby
    go_enter Try.func26, Try.ntmps26
    go_wp2
    exact bodyPost_ret (v := .tuple #[.agg #[.int .i64 0, .int .i64 0], .int .i64 20]) (by simp [results, Try.results26, go_sem]) rfl ⟨rfl, ((Q.refl w).alloc _ _).alloc _ _⟩
  · have hn : I64 (-by_) := by unfold I64 at *; omega
    have c := fun w => sadd_any sl sh (-by_) by_ hsl hsh hn hby w
    rw [decide_eq_true (show -by_ ≤ by_ by omega), show sl + -by_ = sl - by_ by omega] at c
    rw [decide_eq_true (show 0 ≤ by_ by omega)]
    generalize spV (decide (sl ≤ sh) && true) (sl - by_) (sh + by_) (sl - by_) = X at *
    generalize spV (decide (sl ≤ sh) && true) (sl - by_) (sh + by_) (sh + by_) = Y at *
    generalize spE (decide (sl ≤ sh) && true) (sl - by_) (sh + by_) = Z at *
    obtain ⟨m1, m2⟩ := hn
    clear hsl hsh hby
    go_enter Try.func26, Try.ntmps26
    go_wp2_with fail
    refine (c _).mono ?_
    rintro e w1 ⟨rfl, h1⟩
    have z0 := h1.keep (p := ⟨w.heap.size + 1, 0, none⟩) (v := .int .i64 0) (by simp [go_sem])
    have z1 := h1.keep (p := ⟨w.heap.size + 1, 1, none⟩) (v := .int .i64 0) (by simp [go_sem])
    have f0 : w1.frozen? ⟨w.heap.size + 1, 0, none⟩ = false := by rw [h1.marks]; simp [go_sem]
    have f1 : w1.frozen? ⟨w.heap.size + 1, 1, none⟩ = false := by rw [h1.marks]; simp [go_sem]
    have g1 := ((((Q.refl w).alloc _ _).alloc _ _).trans h1)
    clear h1
    go_wp2
    exact bodyPost_ret (v := .tuple #[.agg #[.int .i64 X, .int .i64 Y], .int .i64 Z]) (by simp [results, Try.results26, go_sem, *]) rfl ⟨rfl, (g1.setCell (by simp) _).setCell (by simp) _⟩
end Go.Proofs.Ytkhaephmpifcmaa

namespace Go.Proofs.Ytkhaephmpifcmaa
open Go.RowKit
set_option linter.unusedVariables false
theorem kdrawn_any (x : Int) (w : World) : Calls Try.prog 25 #[.int .i64 x] w fun e w' => e = .returned (.bool (inB x 0 1000000000)) ∧ w = w' := by
  unfold inB
  cases k1 : decide (0 ≤ x)
  · go_enter Try.func25, Try.ntmps25
    go_wp2
    go_ret
    exact ⟨by simp [*], rfl⟩
  · cases k2 : decide (x ≤ 1000000000)
    all_goals
      go_enter Try.func25, Try.ntmps25
      go_wp2
      go_ret
      exact ⟨by simp [*], rfl⟩
theorem kadd_any (a b c d p q : Int) (hp : a + c = p) (hq : b + d = q) (ha : 0 ≤ a ∧ a ≤ b) (hc : 0 ≤ c ∧ c ≤ d) (hm : q ≤ 4000000000000000000) (w : World) :
    Calls Try.prog 29 #[.agg #[.int .i64 a, .int .i64 b], .agg #[.int .i64 c, .int .i64 d]] w fun e w' => e = .returned (.tuple #[.agg #[.int .i64 p, .int .i64 q], .int .i64 0]) ∧ Q w w' := by
  have h := sadd_any a b c d (by unfold I64; omega) (by unfold I64; omega) (by unfold I64; omega) (by unfold I64; omega) w
  rw [decide_eq_true ha.2, decide_eq_true hc.2, hp, hq, Bool.and_self, spV_yes _ (by unfold I64; omega) (by unfold I64; omega), spV_yes _ (by unfold I64; omega) (by unfold I64; omega), spE_yes (by unfold I64; omega) (by unfold I64; omega)] at h
  exact h
theorem ksub_any (a b c d p q : Int) (hp : a - d = p) (hq : b - c = q) (ha : 0 ≤ a ∧ a ≤ b) (hb : b ≤ 4000000000000000000) (hc : 0 ≤ c ∧ c ≤ d) (hd : d ≤ 2000000000) (w : World) :
    Calls Try.prog 28 #[.agg #[.int .i64 a, .int .i64 b], .agg #[.int .i64 c, .int .i64 d]] w fun e w' => e = .returned (.tuple #[.agg #[.int .i64 p, .int .i64 q], .int .i64 0]) ∧ Q w w' := by
  have h := ssub_any a b c d (by unfold I64; omega) (by unfold I64; omega) (by unfold I64; omega) (by unfold I64; omega) w
  rw [decide_eq_true ha.2, decide_eq_true hc.2, hp, hq, Bool.and_self, spV_yes _ (by unfold I64; omega) (by unfold I64; omega), spV_yes _ (by unfold I64; omega) (by unfold I64; omega), spE_yes (by unfold I64; omega) (by unfold I64; omega)] at h
  exact h
theorem kwide_any (x e p q : Int) (hp : x - e = p) (hq : x + e = q) (hx : 0 ≤ x ∧ x ≤ 1000000000) (he : 0 ≤ e ∧ e ≤ 1000000000) (w : World) :
    Calls Try.prog 26 #[.agg #[.int .i64 x, .int .i64 x], .int .i64 e] w fun r w' => r = .returned (.tuple #[.agg #[.int .i64 p, .int .i64 q], .int .i64 0]) ∧ Q w w' := by
  have h := swide_any x x e (by unfold I64; omega) (by unfold I64; omega) (by unfold I64; omega) w
  rw [decide_eq_true (Int.le_refl x), decide_eq_true he.1, hp, hq, Bool.and_self, spV_yes _ (by unfold I64; omega) (by unfold I64; omega), spV_yes _ (by unfold I64; omega) (by unfold I64; omega), spE_yes (by unfold I64; omega) (by unfold I64; omega)] at h
  exact h
theorem StA.cells {ty : TypeId} {w : World} {lo hi b c g : Nat} {W : List Sp2} {T : Sp2} (h : StA ty w lo hi b (some ⟨g, 0, none⟩) c W T) {k : Nat} {s : Sp2} (hk : W[k]? = some s) :
    w.cell? ⟨g, k * 2, none⟩ = some (.int .i64 s.1) ∧ w.cell? ⟨g, k * 2 + 1, none⟩ = some (.int .i64 s.2) ∧ w.frozen? ⟨g, k * 2, none⟩ = false ∧ w.frozen? ⟨g, k * 2 + 1, none⟩ = false := by
  obtain ⟨g', e, _, _, _, h1, h2, h3, h4⟩ := h.at_ hk
  simp only [Option.some.injEq, Addr.mk.injEq, and_true] at e
  subst e
  exact ⟨h1, h2, h3, h4⟩
set_option maxRecDepth 100000 in
set_option maxHeartbeats 4000000 in
/-- Drawing: no such well, numbers that may not be, or too little. -/
theorem kdraw_any (w : World) (lo hi : Nat) (v : Value) (W : List Sp2) (T : Sp2) (i x e M : Int) (h : StT 76 w lo hi v W T) (hw : WB W T M) (hM : M ≤ 4000000000000000000) (hI : I64 i) (hx : I64 x) (he : I64 e) (hn : W.length ≤ 1000000) :
    Calls Try.prog 11 #[v, .int .i64 i, .int .i64 x, .int .i64 e] w fun r w' => r = .returned (.bool (drawOk W i x e)) ∧ StT 76 w' lo hi v (drawW W i x e) (drawT W T i x e) ∧ G (Rng lo hi) w w' := by
  have cA := kat_any w lo hi v W T i h hI hn
  have cX := fun w => kdrawn_any x w
  have cE := fun w => kdrawn_any e w
  obtain ⟨b, o, c, rfl, hA⟩ := h
  cases hs : hasS W i with
  | false =>
    have hok : drawOk W i x e = false := by unfold drawOk; simp [*]
    rw [hs] at cA
    have HA := Lib.hid (And.intro hA hok)
    clear hA hok hs
    go_enter Try.func11, Try.ntmps11
    go_wp2_with fail
    refine cA.mono ?_
    rintro e1 w1 ⟨rfl, q1⟩
    have QF : B w (w1.alloc (.cells #[.int .i64 (atS W i).1, .int .i64 (atS W i).2] 38)) := q1.alloc _ _
    clear cA q1
    go_wp2
    go_ret
    exact ⟨by first | (rw [HA.out.2]; rfl) | rfl, by rw [drawW_no HA.out.2, drawT_no HA.out.2]; exact ⟨_, _, _, rfl, HA.out.1.keepB QF⟩, QF.rng lo hi⟩
  | true =>
  rw [hs] at cA
  cases hbx : inB x 0 1000000000 with
  | false =>
    have hok : drawOk W i x e = false := by unfold drawOk; simp [*]
    rw [hbx] at cX
    have HA := Lib.hid (And.intro hA hok)
    clear hA hok hs
    go_enter Try.func11, Try.ntmps11
    go_wp2_with fail
    refine cA.mono ?_
    rintro e1 w1 ⟨rfl, q1⟩
    have QF : B w (w1.alloc (.cells #[.int .i64 (atS W i).1, .int .i64 (atS W i).2] 38)) := q1.alloc _ _
    clear cA q1
    go_wp2_with fail
    refine (cX _).mono ?_
    rintro e9 wS ⟨rfl, rfl⟩
    go_wp2
    go_ret
    exact ⟨by first | (rw [HA.out.2]; rfl) | rfl, by rw [drawW_no HA.out.2, drawT_no HA.out.2]; exact ⟨_, _, _, rfl, HA.out.1.keepB QF⟩, QF.rng lo hi⟩
  | true =>
  rw [hbx] at cX
  cases hbe : inB e 0 1000000000 with
  | false =>
    have hok : drawOk W i x e = false := by unfold drawOk; simp [*]
    rw [hbe] at cE
    have HA := Lib.hid (And.intro hA hok)
    clear hA hok hs
    go_enter Try.func11, Try.ntmps11
    go_wp2_with fail
    refine cA.mono ?_
    rintro e1 w1 ⟨rfl, q1⟩
    have QF : B w (w1.alloc (.cells #[.int .i64 (atS W i).1, .int .i64 (atS W i).2] 38)) := q1.alloc _ _
    clear cA q1
    go_wp2_with fail
    refine (cX _).mono ?_
    rintro e9 wS ⟨rfl, rfl⟩
    go_wp2_with fail
    refine (cE _).mono ?_
    rintro e9 wS ⟨rfl, rfl⟩
    go_wp2
    go_ret
    exact ⟨by first | (rw [HA.out.2]; rfl) | rfl, by rw [drawW_no HA.out.2, drawT_no HA.out.2]; exact ⟨_, _, _, rfl, HA.out.1.keepB QF⟩, QF.rng lo hi⟩
  | true =>
  rw [hbe] at cE
  obtain ⟨i0, hlt, hg⟩ := hasS_ix hs
  obtain ⟨a1, a2, a3, a4, a5⟩ := hw.at_ hs
  have hx9 : 0 ≤ x ∧ x ≤ 1000000000 := by unfold inB at hbx; simpa using hbx
  have he9 : 0 ≤ e ∧ e ≤ 1000000000 := by unfold inB at hbe; simpa using hbe
  have hat : atS W i = getS W i := by unfold atS; rw [if_pos hs]
  rw [hat] at cA
  obtain ⟨k, hk⟩ : ∃ k : Nat, i = (k : Int) := ⟨i.toNat, by omega⟩
  subst hk
  rw [show ((k : Int)).toNat = k by omega] at hg hlt
  obtain ⟨N, hN⟩ : ∃ N, W.length = N := ⟨_, rfl⟩
  obtain ⟨g, rfl, g1, g2, g3, _, _, _, _⟩ := hA.at_ hg
  by_cases hl : x + e ≤ (getS W (k : Int)).1
  · have hok : drawOk W (k : Int) x e = true := by unfold drawOk; simp [*]
    have hW : drawW W (k : Int) x e = W.set k ((getS W (k : Int)).1 - (x + e), (getS W (k : Int)).2 - lessS x e) := by unfold drawW; rw [if_pos hok]; rfl
    have hT : drawT W T (k : Int) x e = (T.1 + lessS x e, T.2 + x + e) := by unfold drawT; rw [if_pos hok]
    obtain ⟨t0, t1⟩ := T
    generalize getS W (k : Int) = X at *
    obtain ⟨x0, x1⟩ := X
    simp only at a1 a2 a3 a4 a5 hl hg cA
    obtain ⟨xe, hxe⟩ : ∃ z, x + e = z := ⟨_, rfl⟩
    obtain ⟨xm, hxm⟩ : ∃ z, x - e = z := ⟨_, rfl⟩
    obtain ⟨ls, hls⟩ : ∃ z, max xm 0 = z := ⟨_, rfl⟩
    have hls2 : lessS x e = ls := by unfold lessS; rw [hxm]; exact hls
    have hlb : 0 ≤ ls ∧ ls ≤ xe := by omega
    obtain ⟨u0, hu0⟩ : ∃ z, x0 - xe = z := ⟨_, rfl⟩
    obtain ⟨u1, hu1⟩ : ∃ z, x1 - ls = z := ⟨_, rfl⟩
    simp only at hW hT
    obtain ⟨v0, hv0⟩ : ∃ z, t0 + ls = z := ⟨_, rfl⟩
    obtain ⟨v2, hv2⟩ : ∃ z, t1 + xe = z := ⟨_, rfl⟩
    rw [hxe, hls2, hu0, hu1] at hW
    rw [hls2, hv0, show t1 + x + e = v2 by omega] at hT
    have cP := fun w => kadd_any t0 t1 ls xe v0 v2 hv0 hv2 ⟨a4, a5⟩ hlb (by omega) w
    have cW := fun w => kwide_any x e xm xe hxm hxe hx9 he9 w
    have cL := fun w => least_any xm xe 0 w
    rw [hls, show max xe 0 = xe by omega] at cL
    have cS := fun w => ksub_any x0 x1 ls xe u0 u1 hu0 hu1 ⟨a1, a2⟩ (by omega) hlb (by omega) w
    have hnI : (k : Int) < (N : Int) := by omega
    have hk0 : (0 : Int) ≤ (k : Int) := by omega
    have hgb : ¬ g = b := g3
    have hbg : ¬ b = g := fun e => g3 e.symm
    have hst : ¬ (k * 2 = k * 2 + 1) := by omega
    have du : decide (u0 < 0) = false := decide_eq_false (by omega)
    have hgr : ¬ Rng lo hi w.heap.size := fun h => by have := h.2; have := hA.top; omega
    have HA := Lib.hid (And.intro hA (And.intro hlt (And.intro hW (And.intro hT (And.intro hok (And.intro (And.intro g1 g2) (And.intro hg hN)))))))
    have htop := hA.top
    clear hA hlt hW hT hok hg hw hI hx he i0 hs a1 a2 a3 a4 a5 hlb hls2 hls hxe hxm hu0 hu1 hv0 hv2 g1 g2 g3 hN hn hat hbx hbe hx9 he9 hl hgr
    go_enter Try.func11, Try.ntmps11
    go_wp2_with fail
    refine cA.mono ?_
    rintro e1 w1 ⟨rfl, q1⟩
    have HQ := Lib.hid q1
    clear cA q1
    go_wp2_with fail
    have oB1 := obj_new w1 (.cells #[.int .i64 x0, .int .i64 x1] 38)
    have sB1 : (w1.alloc (.cells #[.int .i64 x0, .int .i64 x1] 38)).heap.size = w1.heap.size + 1 := by simp
    have qn : B w1 (w1.alloc (.cells #[.int .i64 x0, .int .i64 x1] 38)) := (B.refl _).alloc _ _
    generalize w1.alloc (.cells #[.int .i64 x0, .int .i64 x1] 38) = w2 at *
    have lB1 : w.heap.size ≤ w1.heap.size := HQ.out.below.size
    replace HQ := Lib.hid (HQ.out.trans qn)
    generalize w1.heap.size = B1 at *
    clear qn
    refine (cX _).mono ?_
    rintro e9 wS ⟨rfl, rfl⟩
    go_wp2_with fail
    refine (cE _).mono ?_
    rintro e9 wS ⟨rfl, rfl⟩
    go_wp2_with fail
    refine (cW _).mono ?_
    rintro e2 w3 ⟨rfl, q3⟩
    replace oB1 := q3.b.obj oB1
    replace HQ := Lib.hid (HQ.out.trans q3.b)
    have n12 : ¬ B1 = w3.heap.size := by have := q3.b.below.size; omega
    clear cW q3
    go_wp2_with fail
    have oB2 := obj_new w3 (.cells #[.int .i64 xm, .int .i64 xe] 38)
    have sB2 : (w3.alloc (.cells #[.int .i64 xm, .int .i64 xe] 38)).heap.size = w3.heap.size + 1 := by simp
    have qn : B w3 (w3.alloc (.cells #[.int .i64 xm, .int .i64 xe] 38)) := (B.refl _).alloc _ _
    replace oB1 := qn.obj oB1
    generalize w3.alloc (.cells #[.int .i64 xm, .int .i64 xe] 38) = w4 at *
    have lB2 : w.heap.size ≤ w3.heap.size := HQ.out.below.size
    replace HQ := Lib.hid (HQ.out.trans qn)
    generalize w3.heap.size = B2 at *
    clear qn
    have n21 : ¬ B2 = B1 := by omega
    refine (cL _).mono ?_
    rintro e3 w5 ⟨rfl, q5⟩
    replace oB1 := q5.b.obj oB1
    replace oB2 := q5.b.obj oB2
    replace HQ := Lib.hid (HQ.out.trans q5.b)
    clear cL q5
    have c10 := obj_cell oB1 0
    have c11 := obj_cell oB1 1
    have c20 := obj_cell oB2 0
    have c21 := obj_cell oB2 1
    have f20 := obj_free oB2 0
    have f21 := obj_free oB2 1
    go_wp2_with fail
    clear c10 c11 c20 c21 f20 f21
    replace oB2 := obj_set (obj_set oB2 0 (.int .i64 ls)) 1 (.int .i64 xe)
    replace HQ := Lib.hid ((HQ.out.setCell (p := ⟨B2, 0, none⟩) lB2 (.int .i64 ls)).setCell (p := ⟨B2, 1, none⟩) lB2 (.int .i64 xe))
    generalize (w5.setCell ⟨B2, 0, none⟩ (.int .i64 ls)).setCell ⟨B2, 1, none⟩ (.int .i64 xe) = w6 at *
    refine (cS _).mono ?_
    rintro e4 w7 ⟨rfl, q7⟩
    replace oB2 := q7.b.obj oB2
    replace HQ := Lib.hid (HQ.out.trans q7.b)
    clear cS q7 oB1
    go_wp2_with fail
    have oB3 := obj_new w7 (.cells #[.int .i64 u0, .int .i64 u1] 38)
    have sB3 : (w7.alloc (.cells #[.int .i64 u0, .int .i64 u1] 38)).heap.size = w7.heap.size + 1 := by simp
    have qn : B w7 (w7.alloc (.cells #[.int .i64 u0, .int .i64 u1] 38)) := (B.refl _).alloc _ _
    replace oB2 := qn.obj oB2
    generalize w7.alloc (.cells #[.int .i64 u0, .int .i64 u1] 38) = w8 at *
    have lB3 : w.heap.size ≤ w7.heap.size := HQ.out.below.size
    replace HQ := Lib.hid (HQ.out.trans qn)
    generalize w7.heap.size = B3 at *
    clear qn
    have HA8 := Lib.hid (HA.out.1.keepB HQ.out)
    have k0 := obj_cell HA8.out.obj 0
    rw [HA.out.2.2.2.2.2.2.2] at k0
    obtain ⟨y0, y1, y2, y3⟩ := HA8.out.cells HA.out.2.2.2.2.2.2.1
    simp only at y0 y1
    have b30 := obj_cell oB3 0
    have b31 := obj_cell oB3 1
    have h3g : ¬ B3 = g := fun e => by have := HA.out.2.2.2.2.2.1.2; omega
    have hg3 : ¬ g = B3 := fun e => h3g e.symm
    refine wp_region_noPanic ?_
    refine wp_region_gate (S := fun w' => w'.cell? ⟨b, 0, none⟩ = some (.slice (some ⟨g, 0, none⟩) N c) ∧ w'.cell? ⟨B3, 0, none⟩ = some (.int .i64 u0) ∧ w'.cell? ⟨B3, 1, none⟩ = some (.int .i64 u1) ∧ w'.cell? ⟨g, k * 2, none⟩ = some (.int .i64 x0) ∧ w'.cell? ⟨g, k * 2 + 1, none⟩ = some (.int .i64 x1) ∧ w'.frozen? ⟨g, k * 2, none⟩ = false ∧ w'.frozen? ⟨g, k * 2 + 1, none⟩ = false) 7 [(0, 3), (1, 3), (2, 3), (3, 0), (4, 3), (5, 0), (6, 3), (7, 4)] [0, 1, 2, 4, 0, 0, 63, 127] [0, 1, 2, 4, 0, 0, 24, 96] [0, 0, 0, 200, 0, 224, 0, 0] (by kernel_rfl) (by kernel_rfl) (fun _ _ _ _ _ h => h) ?_ (fun hH => ?_)
    · exact ⟨k0, b30, b31, y0, y1, y2, y3⟩
    refine wpSeqG_free (d := 52) (v := ?_) rfl rfl (by kernel_rfl) (fun w => ?_) ?_
    rotate_left
    · go_simp <;> with_reducible rfl
    dsimp only [List.set_cons_zero, List.set_cons_succ]
    refine wpSeqG_free (d := 53) (v := ?_) rfl rfl (by kernel_rfl) (fun w => ?_) ?_
    rotate_left
    · go_simp <;> with_reducible rfl
    dsimp only [List.set_cons_zero, List.set_cons_succ]
    refine wpSeqG_free (d := 54) (v := ?_) rfl rfl (by kernel_rfl) (fun w => ?_) ?_
    rotate_left
    · go_simp <;> with_reducible rfl
    dsimp only [List.set_cons_zero, List.set_cons_succ]
    refine wpSeqG_take (d := 55) (v := ?_) rfl rfl (by kernel_rfl) (fun w hS => ?_) ?_
    rotate_left
    · go_simp <;> with_reducible rfl
    dsimp only [List.set_cons_zero, List.set_cons_succ]
    refine wpSeqG_free (d := 56) (v := ?_) rfl rfl (by kernel_rfl) (fun w => ?_) ?_
    rotate_left
    · go_simp <;> with_reducible rfl
    dsimp only [List.set_cons_zero, List.set_cons_succ]
    refine wpSeqG_take (d := 57) (v := ?_) rfl rfl (by kernel_rfl) (fun w hS => ?_) ?_
    rotate_left
    · go_simp <;> with_reducible rfl
    dsimp only [List.set_cons_zero, List.set_cons_succ]
    refine wpSeqG_free (d := 58) (v := ?_) rfl rfl (by kernel_rfl) (fun w => ?_) ?_
    rotate_left
    · go_simp <;> with_reducible rfl
    dsimp only [List.set_cons_zero, List.set_cons_succ]
    refine wpSeqG_gate rfl (by kernel_rfl) (fun K hK => ?_)
    go_simp
    refine hK.out _ _ ?_
    clear hK
    refine wpSeqG_done ?_
    refine NoPanic.normal ?_
    clear k0 y0 y1 y2 y3 b30 b31 hH
    have hA9 := (HA8.out.setW HA.out.2.1 u0 u1).keepB (B.refl _).drew
    have g9 : G (Rng lo hi) w8 ((w8.setCell ⟨g, k * 2, none⟩ (.int .i64 u0)).setCell ⟨g, k * 2 + 1, none⟩ (.int .i64 u1)).drew := (G.set2 HA.out.2.2.2.2.2.1 _ _).drew
    have o9 := g9.obj (b := B2) (fun h => by have h2 : B2 < hi := h.2; omega) oB2
    go_simp
    generalize ((w8.setCell ⟨g, k * 2, none⟩ (.int .i64 u0)).setCell ⟨g, k * 2 + 1, none⟩ (.int .i64 u1)).drew = w9 at *
    have k1 := obj_cell hA9.obj 1
    have k2 := obj_cell hA9.obj 2
    have c20 := obj_cell o9 0
    have c21 := obj_cell o9 1
    have HG := Lib.hid (And.intro hA9 ((HQ.out.rng lo hi).trans g9))
    go_wp2_with fail
    refine wp_region_noPanic ?_
    refine wp_region_gate (S := fun w' => StA 76 w' lo hi b (some ⟨g, 0, none⟩) c (W.set k (u0, u1)) (t0, t1) ∧ w'.cell? ⟨b, 1, none⟩ = some (.int .i64 t0) ∧ w'.cell? ⟨b, 2, none⟩ = some (.int .i64 t1) ∧ w'.cell? ⟨B2, 0, none⟩ = some (.int .i64 ls) ∧ w'.cell? ⟨B2, 1, none⟩ = some (.int .i64 xe) ∧ B w9 w') 12 [(0, 3), (1, 3), (2, 3), (3, 3), (4, 0), (5, 0), (6, 2), (7, 3), (8, 3), (9, 3), (10, 3), (11, 3), (12, 4)] [0, 0, 2, 4, 8, 0, 48, 64, 128, 128, 511, 1535, 2559] [0, 0, 2, 4, 8, 0, 48, 64, 128, 128, 1, 1024, 2304] [0, 0, 0, 0, 8144, 8160, 0, 0, 0, 0, 0, 0, 0] (by kernel_rfl) (by kernel_rfl) (fun _ _ _ _ _ h => h) ?_ (fun hH => ?_)
    · exact ⟨HG.out.1.keepB (B.refl _).drew, k1, k2, c20, c21, (B.refl _).drew⟩
    refine wpSeqG_free (d := 60) (v := ?_) rfl rfl (by kernel_rfl) (fun w => ?_) ?_
    rotate_left
    · go_simp <;> with_reducible rfl
    dsimp only [List.set_cons_zero, List.set_cons_succ]
    refine wpSeqG_free (d := 61) (v := ?_) rfl rfl (by kernel_rfl) (fun w => ?_) ?_
    rotate_left
    · go_simp <;> with_reducible rfl
    dsimp only [List.set_cons_zero, List.set_cons_succ]
    refine wpSeqG_free (d := 62) (v := ?_) rfl rfl (by kernel_rfl) (fun w => ?_) ?_
    rotate_left
    · go_simp <;> with_reducible rfl
    dsimp only [List.set_cons_zero, List.set_cons_succ]
    refine wpSeqG_free (d := 63) (v := ?_) rfl rfl (by kernel_rfl) (fun w => ?_) ?_
    rotate_left
    · go_simp <;> with_reducible rfl
    dsimp only [List.set_cons_zero, List.set_cons_succ]
    refine wpSeqG_take (d := 64) (v := ?_) rfl rfl (by kernel_rfl) (fun w hS => ?_) ?_
    rotate_left
    · go_simp <;> with_reducible rfl
    dsimp only [List.set_cons_zero, List.set_cons_succ]
    refine wpSeqG_take (d := 65) (v := ?_) rfl rfl (by kernel_rfl) (fun w hS => ?_) ?_
    rotate_left
    · go_simp <;> with_reducible rfl
    dsimp only [List.set_cons_zero, List.set_cons_succ]
    refine wpSeqG_call rfl (by kernel_rfl) (fun K hK => ?_)
    go_simp
    (with_reducible refine (cP _).mono ?_)
    rintro e w' ⟨rfl, hq⟩
    refine hK.out _ _ ?_ (fun hH => ?_)
    · exact ⟨hH.1.keepB hq.b, hq.keep hH.2.1, hq.keep hH.2.2.1, hq.keep hH.2.2.2.1, hq.keep hH.2.2.2.2.1, hH.2.2.2.2.2.trans hq.b⟩
    clear hK
    refine wpSeqG_free (d := 59) (v := ?_) rfl rfl (by kernel_rfl) (fun w => ?_) ?_
    rotate_left
    · go_simp <;> with_reducible rfl
    dsimp only [List.set_cons_zero, List.set_cons_succ]
    refine wpSeqG_free (d := 67) (v := ?_) rfl rfl (by kernel_rfl) (fun w => ?_) ?_
    rotate_left
    · go_simp <;> with_reducible rfl
    dsimp only [List.set_cons_zero, List.set_cons_succ]
    refine wpSeqG_free (d := 68) (v := ?_) rfl rfl (by kernel_rfl) (fun w => ?_) ?_
    rotate_left
    · go_simp <;> with_reducible rfl
    dsimp only [List.set_cons_zero, List.set_cons_succ]
    refine wpSeqG_free (d := 69) (v := ?_) rfl rfl (by kernel_rfl) (fun w => ?_) ?_
    rotate_left
    · go_simp <;> with_reducible rfl
    dsimp only [List.set_cons_zero, List.set_cons_succ]
    refine wpSeqG_free (d := 70) (v := ?_) rfl rfl (by kernel_rfl) (fun w => ?_) ?_
    rotate_left
    · go_simp <;> with_reducible rfl
    dsimp only [List.set_cons_zero, List.set_cons_succ]
    refine wpSeqG_gate rfl (by kernel_rfl) (fun K hK => ?_)
    have f1 := obj_free hH.1.obj 1
    have f2 := obj_free hH.1.obj 2
    have e1 := hH.2.1
    have e2 := hH.2.2.1
    have HF := Lib.hid hH
    go_simp
    refine hK.out _ _ ?_
    clear hK
    refine wpSeqG_done ?_
    refine NoPanic.normal ?_
    clear k1 k2 c20 c21 e1 e2 f1 f2 hH o9
    have hA10 := HF.out.1.setT v0 v2
    have g10 : G (Rng lo hi) w ((w'.setCell ⟨b, 1, none⟩ (.int .i64 v0)).setCell ⟨b, 2, none⟩ (.int .i64 v2)) := (HG.out.2.trans (HF.out.2.2.2.2.2.rng lo hi)).trans (G.set2 ⟨HF.out.1.blo, HF.out.1.bhi⟩ _ _)
    go_simp
    generalize ((w'.setCell ⟨b, 1, none⟩ (.int .i64 v0)).setCell ⟨b, 2, none⟩ (.int .i64 v2)) = wF at *
    have HE := Lib.hid (And.intro hA10 g10)
    clear hA10 g10
    go_wp2
    go_ret
    exact ⟨by rw [HA.out.2.2.2.2.1]; rfl, ⟨b, _, c, rfl, by rw [HA.out.2.2.1, HA.out.2.2.2.1]; exact HE.out.1⟩, HE.out.2⟩
  · have hok : drawOk W (k : Int) x e = false := by unfold drawOk; simp only [hs, hbx, hbe, Bool.true_and]; exact decide_eq_false hl
    generalize getS W (k : Int) = X at *
    obtain ⟨x0, x1⟩ := X
    simp only at a1 a2 a3 a4 a5 hl hg cA
    obtain ⟨xe, hxe⟩ : ∃ z, x + e = z := ⟨_, rfl⟩
    obtain ⟨xm, hxm⟩ : ∃ z, x - e = z := ⟨_, rfl⟩
    obtain ⟨ls, hls⟩ : ∃ z, max xm 0 = z := ⟨_, rfl⟩
    have hls2 : lessS x e = ls := by unfold lessS; rw [hxm]; exact hls
    have hlb : 0 ≤ ls ∧ ls ≤ xe := by omega
    obtain ⟨u0, hu0⟩ : ∃ z, x0 - xe = z := ⟨_, rfl⟩
    obtain ⟨u1, hu1⟩ : ∃ z, x1 - ls = z := ⟨_, rfl⟩
    have cW := fun w => kwide_any x e xm xe hxm hxe hx9 he9 w
    have cL := fun w => least_any xm xe 0 w
    rw [hls, show max xe 0 = xe by omega] at cL
    have cS := fun w => ksub_any x0 x1 ls xe u0 u1 hu0 hu1 ⟨a1, a2⟩ (by omega) hlb (by omega) w
    have hnI : (k : Int) < (N : Int) := by omega
    have hk0 : (0 : Int) ≤ (k : Int) := by omega
    have hgb : ¬ g = b := g3
    have hbg : ¬ b = g := fun e => g3 e.symm
    have hst : ¬ (k * 2 = k * 2 + 1) := by omega
    have du : decide (u0 < 0) = true := decide_eq_true (by omega)
    have HA := Lib.hid (And.intro hA hok)
    have htop := hA.top
    clear hA hlt hok hg hw hI hx he i0 hs a1 a2 a3 a4 a5 hlb hls2 hls hxe hxm hu0 hu1 g1 g2 g3 hN hn hat hbx hbe hx9 he9 hl
    go_enter Try.func11, Try.ntmps11
    go_wp2_with fail
    refine cA.mono ?_
    rintro e1 w1 ⟨rfl, q1⟩
    have HQ := Lib.hid q1
    clear cA q1
    go_wp2_with fail
    have oB1 := obj_new w1 (.cells #[.int .i64 x0, .int .i64 x1] 38)
    have sB1 : (w1.alloc (.cells #[.int .i64 x0, .int .i64 x1] 38)).heap.size = w1.heap.size + 1 := by simp
    have qn : B w1 (w1.alloc (.cells #[.int .i64 x0, .int .i64 x1] 38)) := (B.refl _).alloc _ _
    generalize w1.alloc (.cells #[.int .i64 x0, .int .i64 x1] 38) = w2 at *
    have lB1 : w.heap.size ≤ w1.heap.size := HQ.out.below.size
    replace HQ := Lib.hid (HQ.out.trans qn)
    generalize w1.heap.size = B1 at *
    clear qn
    refine (cX _).mono ?_
    rintro e9 wS ⟨rfl, rfl⟩
    go_wp2_with fail
    refine (cE _).mono ?_
    rintro e9 wS ⟨rfl, rfl⟩
    go_wp2_with fail
    refine (cW _).mono ?_
    rintro e2 w3 ⟨rfl, q3⟩
    replace oB1 := q3.b.obj oB1
    replace HQ := Lib.hid (HQ.out.trans q3.b)
    have n12 : ¬ B1 = w3.heap.size := by have := q3.b.below.size; omega
    clear cW q3
    go_wp2_with fail
    have oB2 := obj_new w3 (.cells #[.int .i64 xm, .int .i64 xe] 38)
    have sB2 : (w3.alloc (.cells #[.int .i64 xm, .int .i64 xe] 38)).heap.size = w3.heap.size + 1 := by simp
    have qn : B w3 (w3.alloc (.cells #[.int .i64 xm, .int .i64 xe] 38)) := (B.refl _).alloc _ _
    replace oB1 := qn.obj oB1
    generalize w3.alloc (.cells #[.int .i64 xm, .int .i64 xe] 38) = w4 at *
    have lB2 : w.heap.size ≤ w3.heap.size := HQ.out.below.size
    replace HQ := Lib.hid (HQ.out.trans qn)
    generalize w3.heap.size = B2 at *
    clear qn
    have n21 : ¬ B2 = B1 := by omega
    refine (cL _).mono ?_
    rintro e3 w5 ⟨rfl, q5⟩
    replace oB1 := q5.b.obj oB1
    replace oB2 := q5.b.obj oB2
    replace HQ := Lib.hid (HQ.out.trans q5.b)
    clear cL q5
    have c10 := obj_cell oB1 0
    have c11 := obj_cell oB1 1
    have c20 := obj_cell oB2 0
    have c21 := obj_cell oB2 1
    have f20 := obj_free oB2 0
    have f21 := obj_free oB2 1
    go_wp2_with fail
    clear c10 c11 c20 c21 f20 f21
    replace oB2 := obj_set (obj_set oB2 0 (.int .i64 ls)) 1 (.int .i64 xe)
    replace HQ := Lib.hid ((HQ.out.setCell (p := ⟨B2, 0, none⟩) lB2 (.int .i64 ls)).setCell (p := ⟨B2, 1, none⟩) lB2 (.int .i64 xe))
    generalize (w5.setCell ⟨B2, 0, none⟩ (.int .i64 ls)).setCell ⟨B2, 1, none⟩ (.int .i64 xe) = w6 at *
    refine (cS _).mono ?_
    rintro e4 w7 ⟨rfl, q7⟩
    replace oB2 := q7.b.obj oB2
    replace HQ := Lib.hid (HQ.out.trans q7.b)
    clear cS q7 oB1
    have QF : B w (w7.alloc (.cells #[.int .i64 u0, .int .i64 u1] 38)) := HQ.out.alloc _ _
    go_wp2
    go_ret
    exact ⟨by first | (rw [HA.out.2]; rfl) | rfl, by rw [drawW_no HA.out.2, drawT_no HA.out.2]; exact ⟨_, _, _, rfl, HA.out.1.keepB QF⟩, QF.rng lo hi⟩
end Go.Proofs.Ytkhaephmpifcmaa

namespace Go.Proofs.Ytkhaephmpifcmaa
open Go.RowKit
set_option linter.unusedVariables false
set_option maxRecDepth 100000 in
set_option maxHeartbeats 4000000 in
theorem kgive_any (w : World) (lo hi : Nat) (v : Value) (W : List Sp2) (T : Sp2) (i M : Int) (h : StT 76 w lo hi v W T) (hw : WB W T M) (hM : M ≤ 4000000000000000000) (hI : I64 i) (hn : W.length ≤ 1000000) :
    Calls Try.prog 13 #[v, .int .i64 i] w fun r w' => r = .returned (.bool (hasS W i)) ∧ StT 76 w' lo hi v (giveW W T i) (giveT W T i) ∧ G (Rng lo hi) w w' := by
  have cA := kat_any w lo hi v W T i h hI hn
  obtain ⟨b, o, c, rfl, hA⟩ := h
  cases hs : hasS W i with
  | false =>
    rw [hs] at cA
    have HA := Lib.hid (And.intro hA hs)
    clear hA hs
    go_enter Try.func13, Try.ntmps13
    go_wp2_with fail
    refine cA.mono ?_
    rintro e1 w1 ⟨rfl, q1⟩
    have QF : B w (w1.alloc (.cells #[.int .i64 (atS W i).1, .int .i64 (atS W i).2] 38)) := q1.alloc _ _
    clear cA q1
    go_wp2
    go_ret
    exact ⟨rfl, by rw [giveW_no HA.out.2, giveT_no HA.out.2]; exact ⟨_, _, _, rfl, HA.out.1.keepB QF⟩, QF.rng lo hi⟩
  | true =>
  rw [hs] at cA
  obtain ⟨i0, hlt, hg⟩ := hasS_ix hs
  obtain ⟨a1, a2, a3, a4, a5⟩ := hw.at_ hs
  have hat : atS W i = getS W i := by unfold atS; rw [if_pos hs]
  rw [hat] at cA
  have hW : giveW W T i = W.set i.toNat ((getS W i).1 + T.1, (getS W i).2 + T.2) := by unfold giveW; rw [if_pos hs]
  have hT : giveT W T i = (0, 0) := by unfold giveT; rw [if_pos hs]
  obtain ⟨k, hk⟩ : ∃ k : Nat, i = (k : Int) := ⟨i.toNat, by omega⟩
  subst hk
  rw [show ((k : Int)).toNat = k by omega] at hg hlt hW
  obtain ⟨N, hN⟩ : ∃ N, W.length = N := ⟨_, rfl⟩
  obtain ⟨g, rfl, g1, g2, g3, _, _, _, _⟩ := hA.at_ hg
  obtain ⟨t0, t1⟩ := T
  generalize getS W (k : Int) = X at *
  obtain ⟨x0, x1⟩ := X
  simp only at a1 a2 a3 a4 a5 hg cA hW
  obtain ⟨u0, hu0⟩ : ∃ z, x0 + t0 = z := ⟨_, rfl⟩
  obtain ⟨u1, hu1⟩ : ∃ z, x1 + t1 = z := ⟨_, rfl⟩
  rw [hu0, hu1] at hW
  have cP := fun w => kadd_any x0 x1 t0 t1 u0 u1 hu0 hu1 ⟨a1, a2⟩ ⟨a4, a5⟩ (by omega) w
  have hnI : (k : Int) < (N : Int) := by omega
  have hk0 : (0 : Int) ≤ (k : Int) := by omega
  have hgb : ¬ g = b := g3
  have hbg : ¬ b = g := fun e => g3 e.symm
  have hst : ¬ (k * 2 = k * 2 + 1) := by omega
  have HA := Lib.hid (And.intro hA (And.intro hlt (And.intro hW (And.intro hT (And.intro hs (And.intro (And.intro g1 g2) (And.intro hg hN)))))))
  have htop := hA.top
  clear hA hlt hW hT hg hw hI i0 hs a1 a2 a3 a4 a5 hu0 hu1 g1 g2 g3 hN hn hat
  go_enter Try.func13, Try.ntmps13
  go_wp2_with fail
  refine cA.mono ?_
  rintro e1 w1 ⟨rfl, q1⟩
  have HQ := Lib.hid q1
  clear cA q1
  go_wp2_with fail
  have oB1 := obj_new w1 (.cells #[.int .i64 x0, .int .i64 x1] 38)
  have sB1 : (w1.alloc (.cells #[.int .i64 x0, .int .i64 x1] 38)).heap.size = w1.heap.size + 1 := by simp
  have qn : B w1 (w1.alloc (.cells #[.int .i64 x0, .int .i64 x1] 38)) := (B.refl _).alloc _ _
  generalize w1.alloc (.cells #[.int .i64 x0, .int .i64 x1] 38) = w2 at *
  have lB1 : w.heap.size ≤ w1.heap.size := HQ.out.below.size
  replace HQ := Lib.hid (HQ.out.trans qn)
  generalize w1.heap.size = B1 at *
  clear qn
  have hA2 := HA.out.1.keepB HQ.out
  have k0 := obj_cell hA2.obj 0
  rw [HA.out.2.2.2.2.2.2.2] at k0
  have k1 := obj_cell hA2.obj 1
  have k2 := obj_cell hA2.obj 2
  have c10 := obj_cell oB1 0
  have c11 := obj_cell oB1 1
  refine wp_region_noPanic ?_
  refine wp_region_gate (S := fun w' => StA 76 w' lo hi b (some ⟨g, 0, none⟩) c W (t0, t1) ∧ w'.cell? ⟨b, 0, none⟩ = some (.slice (some ⟨g, 0, none⟩) N c) ∧ w'.cell? ⟨b, 1, none⟩ = some (.int .i64 t0) ∧ w'.cell? ⟨b, 2, none⟩ = some (.int .i64 t1) ∧ w'.cell? ⟨B1, 0, none⟩ = some (.int .i64 x0) ∧ w'.cell? ⟨B1, 1, none⟩ = some (.int .i64 x1) ∧ B w2 w') 15 [(0, 3), (1, 3), (2, 3), (3, 0), (4, 3), (5, 0), (6, 3), (7, 3), (8, 3), (9, 0), (10, 2), (11, 3), (12, 3), (13, 3), (14, 3), (15, 4)] [0, 1, 2, 4, 0, 0, 0, 64, 128, 256, 544, 1024, 2048, 2048, 8191, 24575] [0, 1, 2, 4, 0, 0, 0, 64, 128, 256, 544, 1024, 2048, 2048, 24, 20480] [0, 0, 0, 49160, 0, 64544, 0, 0, 0, 65024, 0, 0, 0, 0, 0, 0] (by kernel_rfl) (by kernel_rfl) (fun _ _ _ _ _ h => h) ?_ (fun hH => ?_)
  · exact ⟨hA2.keepB (B.refl _).drew, k0, k1, k2, c10, c11, (B.refl _).drew⟩
  refine wpSeqG_free (d := 16) (v := ?_) rfl rfl (by kernel_rfl) (fun w => ?_) ?_
  rotate_left
  · go_simp <;> with_reducible rfl
  dsimp only [List.set_cons_zero, List.set_cons_succ]
  refine wpSeqG_free (d := 17) (v := ?_) rfl rfl (by kernel_rfl) (fun w => ?_) ?_
  rotate_left
  · go_simp <;> with_reducible rfl
  dsimp only [List.set_cons_zero, List.set_cons_succ]
  refine wpSeqG_free (d := 18) (v := ?_) rfl rfl (by kernel_rfl) (fun w => ?_) ?_
  rotate_left
  · go_simp <;> with_reducible rfl
  dsimp only [List.set_cons_zero, List.set_cons_succ]
  refine wpSeqG_take (d := 19) (v := ?_) rfl rfl (by kernel_rfl) (fun w hS => ?_) ?_
  rotate_left
  · go_simp <;> with_reducible rfl
  dsimp only [List.set_cons_zero, List.set_cons_succ]
  refine wpSeqG_free (d := 20) (v := ?_) rfl rfl (by kernel_rfl) (fun w => ?_) ?_
  rotate_left
  · go_simp <;> with_reducible rfl
  dsimp only [List.set_cons_zero, List.set_cons_succ]
  refine wpSeqG_take (d := 21) (v := ?_) rfl rfl (by kernel_rfl) (fun w hS => ?_) ?_
  rotate_left
  · go_simp <;> with_reducible rfl
  dsimp only [List.set_cons_zero, List.set_cons_succ]
  refine wpSeqG_free (d := 22) (v := ?_) rfl rfl (by kernel_rfl) (fun w => ?_) ?_
  rotate_left
  · go_simp <;> with_reducible rfl
  dsimp only [List.set_cons_zero, List.set_cons_succ]
  refine wpSeqG_free (d := 23) (v := ?_) rfl rfl (by kernel_rfl) (fun w => ?_) ?_
  rotate_left
  · go_simp <;> with_reducible rfl
  dsimp only [List.set_cons_zero, List.set_cons_succ]
  refine wpSeqG_free (d := 24) (v := ?_) rfl rfl (by kernel_rfl) (fun w => ?_) ?_
  rotate_left
  · go_simp <;> with_reducible rfl
  dsimp only [List.set_cons_zero, List.set_cons_succ]
  refine wpSeqG_take (d := 25) (v := ?_) rfl rfl (by kernel_rfl) (fun w hS => ?_) ?_
  rotate_left
  · go_simp <;> with_reducible rfl
  dsimp only [List.set_cons_zero, List.set_cons_succ]
  refine wpSeqG_call rfl (by kernel_rfl) (fun K hK => ?_)
  go_simp
  (with_reducible refine (cP _).mono ?_)
  rintro e w' ⟨rfl, hq⟩
  refine hK.out _ _ ?_ (fun hH => ?_)
  · exact ⟨hH.1.keepB hq.b, hq.keep hH.2.1, hq.keep hH.2.2.1, hq.keep hH.2.2.2.1, hq.keep hH.2.2.2.2.1, hq.keep hH.2.2.2.2.2.1, hH.2.2.2.2.2.2.trans hq.b⟩
  clear hK
  refine wpSeqG_free (d := 15) (v := ?_) rfl rfl (by kernel_rfl) (fun w => ?_) ?_
  rotate_left
  · go_simp <;> with_reducible rfl
  dsimp only [List.set_cons_zero, List.set_cons_succ]
  refine wpSeqG_free (d := 27) (v := ?_) rfl rfl (by kernel_rfl) (fun w => ?_) ?_
  rotate_left
  · go_simp <;> with_reducible rfl
  dsimp only [List.set_cons_zero, List.set_cons_succ]
  refine wpSeqG_free (d := 28) (v := ?_) rfl rfl (by kernel_rfl) (fun w => ?_) ?_
  rotate_left
  · go_simp <;> with_reducible rfl
  dsimp only [List.set_cons_zero, List.set_cons_succ]
  refine wpSeqG_free (d := 29) (v := ?_) rfl rfl (by kernel_rfl) (fun w => ?_) ?_
  rotate_left
  · go_simp <;> with_reducible rfl
  dsimp only [List.set_cons_zero, List.set_cons_succ]
  refine wpSeqG_gate rfl (by kernel_rfl) (fun K hK => ?_)
  obtain ⟨y0, y1, y2, y3⟩ := hH.1.cells HA.out.2.2.2.2.2.2.1
  simp only at y0 y1
  have HF := Lib.hid hH
  go_simp
  refine hK.out _ _ ?_
  clear hK
  refine wpSeqG_done ?_
  refine NoPanic.normal ?_
  clear k0 k1 k2 c10 c11 y0 y1 y2 y3 hH hA2
  have hA10 := HF.out.1.setW HA.out.2.1 u0 u1
  have g10 : G (Rng lo hi) w ((w'.setCell ⟨g, k * 2, none⟩ (.int .i64 u0)).setCell ⟨g, k * 2 + 1, none⟩ (.int .i64 u1)) := ((HQ.out.trans HF.out.2.2.2.2.2.2).rng lo hi).trans (G.set2 HA.out.2.2.2.2.2.1 _ _)
  go_simp
  generalize ((w'.setCell ⟨g, k * 2, none⟩ (.int .i64 u0)).setCell ⟨g, k * 2 + 1, none⟩ (.int .i64 u1)) = w3 at *
  have j1 := obj_cell hA10.obj 1
  have j2 := obj_cell hA10.obj 2
  have f1 := obj_free hA10.obj 1
  have f2 := obj_free hA10.obj 2
  have hA11 := hA10.setT 0 0
  have g11 := g10.trans (G.set2 (lo := lo) (hi := hi) (k := 1) (j := 2) ⟨hA10.blo, hA10.bhi⟩ (.int .i64 0) (.int .i64 0))
  have HE := Lib.hid (And.intro hA11 g11)
  clear hA10 g10 hA11 g11
  go_wp2
  go_ret
  exact ⟨rfl, ⟨b, _, c, rfl, by rw [HA.out.2.2.1, HA.out.2.2.2.1]; exact HE.out.1⟩, HE.out.2⟩
theorem trk_code : TrkC (StT 76) where
  on h hs hb := h.on hs hb
  top h := by obtain ⟨b, o, c, rfl, h⟩ := h; exact h.top
  ptr h := by obtain ⟨b, o, c, rfl, h⟩ := h; exact ⟨_, rfl⟩
  new P w X h hr hf := knew_any P w X h hr hf
  at_ w lo hi v W T i h hI hn := kat_any w lo hi v W T i h hI hn
  tip w lo hi v W T h := ktip_any w lo hi v W T h
  draw w lo hi v W T i x e M h hw hM hI hx he hn := kdraw_any w lo hi v W T i x e M h hw hM hI hx he hn
  give w lo hi v W T i M h hw hM hI hn := kgive_any w lo hi v W T i M h hw hM hI hn
theorem drop_code : DropC (StT 76) := ⟨fun w lo hi v W T h => kdrop_any w lo hi v W T h⟩
theorem clone_code : CloneC (StT 76) := ⟨fun w lo hi v W T h hn => kclone_any w lo hi v W T h hn, fun w => knew_none w⟩
end Go.Proofs.Ytkhaephmpifcmaa

namespace Go.Proofs.Ytkhaephmpifcmaa
open Go.RowKit
set_option linter.unusedVariables false
theorem nameS_sz {n : ByteArray} (h : nameS n = true) : n.size ≤ 16 := by
  unfold nameS at h
  have h16 := of_decide_eq_true (Bool.and_eq_true_iff.1 (Bool.and_eq_true_iff.1 (Bool.and_eq_true_iff.1 h).1).1).2
  omega
theorem indexC_has : ∀ (ws : List Wr) (K : Int) (n : ByteArray) (r c : Int), (indexC ws K n r c).isSome = true → ∃ w ∈ ws, hasB w.n w.x w.y n r c = true
  | [], _, _, _, _, h => by cases h
  | w :: ws, K, n, r, c, h => by
    rw [indexC] at h
    split at h
    · rename_i hh
      exact ⟨w, List.mem_cons_self .., hh⟩
    · obtain ⟨v, hv, e⟩ := indexC_has ws _ n r c h
      exact ⟨v, List.mem_cons_of_mem _ hv, e⟩
/-- What a right deck's names and numbers are. -/
structure Small (d : Dk) : Prop where
  wn : ∀ r ∈ d.ws, r.n.size ≤ maxLen
  wi : ∀ r ∈ d.ws, I64 r.x ∧ I64 r.y
  tn : ∀ r ∈ d.ts, r.n.size ≤ maxLen
  fi : ∀ f ∈ d.fs, f.n.size ≤ maxLen ∧ I64 f.r ∧ I64 f.c
theorem rightD_small {d : Dk} (h : rightD d = true) : Small d := by
  obtain ⟨_, _, pW, pT⟩ := right_parts9 h
  have hw : ∀ r ∈ d.ws, nameS r.n = true ∧ (1 ≤ r.x ∧ r.x ≤ 8) ∧ (1 ≤ r.y ∧ r.y ≤ 12) := fun r hr => by
    obtain ⟨i, hi⟩ := List.getElem?_of_mem hr
    have := (apart_at pW hi).1
    unfold wareOk at this
    simp only [Bool.and_eq_true, inB, decide_eq_true_eq] at this
    exact ⟨this.1.1.1.1, this.1.1.1.2, this.1.1.2⟩
  have ht : ∀ r ∈ d.ts, nameS r.n = true := fun r hr => by
    obtain ⟨i, hi⟩ := List.getElem?_of_mem hr
    have := (apart_at pT hi).1
    unfold tipOk at this
    simp only [Bool.and_eq_true] at this
    exact this.1.1.1.1
  refine ⟨fun r hr => ?_, fun r hr => ?_, fun r hr => ?_, fun f hf => ?_⟩
  · have := nameS_sz (hw r hr).1; unfold maxLen; omega
  · obtain ⟨_, h1, h2⟩ := hw r hr; unfold I64; omega
  · have := nameS_sz (ht r hr); unfold maxLen; omega
  · obtain ⟨i, hi⟩ := List.getElem?_of_mem hf
    obtain ⟨⟨k, hk, _⟩, _⟩ := right_fill h hi
    obtain ⟨w, hwm, hb⟩ := indexC_has d.ws 0 f.n f.r f.c (by rw [hk]; rfl)
    obtain ⟨h1, h2, h3, h4⟩ := hasB_in hb
    obtain ⟨hn, hx, hy⟩ := hw w hwm
    unfold hasB at hb
    simp only [Bool.and_eq_true, beq_iff_eq] at hb
    have e : w.n = f.n := ba_eq hb.1.1
    have := nameS_sz hn
    rw [e] at this
    unfold maxLen I64
    omega
theorem fillsF_len (ws : List Wr) : ∀ (l : List Nat) (i : Nat), (fillsF ws i l).length ≤ l.length
  | [], _ => by simp [fillsF]
  | x :: l, i => by
    have ih := fillsF_len ws l (i + 1)
    unfold fillsF
    split
    · simp; omega
    · split
      · simp; omega
      · simp; omega
theorem dnew_right (wv tv fv : Value) (d : Dk) (w : World) (h : IsDk w wv tv fv d) (hr : rightD d = true) (hf9 : d.fs.length < 1000) :
    Calls Try.prog 21 #[.agg #[wv, tv, fv]] w fun e w' => ∃ (P : Bp) (X : List Th), e = .returned (.tuple #[.pointer (some ⟨P.b, 0, none⟩), .int .i64 0]) ∧ P.d = d ∧ BoardM P w' 0 [] X ∧ w.heap.size ≤ P.lo ∧ P.top = w'.heap.size ∧ B w w' :=
  have s := rightD_small hr
  dnew_yes wv tv fv d w h hr s.wn s.wi s.tn s.fi hf9
theorem BoardM.low {P : Bp} {w : World} {m9 : Nat} {E : List Ent} {X : List Th} (h : BoardM P w m9 E X) : P.lo ≤ P.bm ∧ ∀ i, P.S i → P.lo ≤ i := by
  have h1 := h.lohi
  have h2 := h.hibm
  refine ⟨by omega, fun i hi => ?_⟩
  have := (h.sLow i hi).1
  omega
end Go.Proofs.Ytkhaephmpifcmaa

namespace Go.Proofs.Ytkhaephmpifcmaa
open Go.RowKit
set_option linter.unusedVariables false
def Brd17 (d : Dk) (w0 w' : World) (e : Ending) : Prop := ∃ (P : Bp) (X : List Th) (b : Nat) (wv tv fv : Value), e = .returned (.tuple #[.pointer (some ⟨P.b, 0, none⟩), .pointer (some ⟨b, 0, none⟩), .bool true]) ∧ P.d = d ∧ BoardM P w' 0 [] X ∧ IsDk w' wv tv fv d ∧ (∃ lo hi, Held (RBt d b wv tv fv) lo hi w') ∧ B w0 w'
set_option maxRecDepth 100000 in
set_option maxHeartbeats 2000000 in
theorem boards17_any (a b c d : Int) (lv : Value) (ll : List Nat) (h20 : ll.length ≤ 20) (ha : 0 ≤ a ∧ a ≤ 255) (hb : 0 ≤ b ∧ b ≤ 255) (hc : 0 ≤ c ∧ c ≤ 255) (hd : 0 ≤ d ∧ d ≤ 255) (w : World) (hU : IsU32s w lv ll) :
    Calls Try.prog 8 #[.int .u8 a, .int .u8 b, .int .u8 c, .int .u8 d, lv] w fun e w' => Brd17 (seatD a b c d ll) w w' e := by
  have cD := deck_any a b c d lv ll h20 ha hb hc hd w hU
  have hR := seat_right ha hb hc hd ll
  have hF : (seatD a b c d ll).fs.length < 1000 := by have := fillsF_len (wares7 a b c d) ll 0; show (fillsF _ _ _).length < 1000; omega
  obtain ⟨ao, cap, rfl, hlm, _⟩ := hU
  obtain ⟨ln, hln⟩ : ∃ ln, ll.length = ln := ⟨_, rfl⟩
  rw [hln] at cD ⊢
  generalize seatD a b c d ll = D at *
  clear ha hb hc hd hlm hln h20
  go_enter Try.func8, Try.ntmps8
  go_wp2_with fail
  refine cD.mono ?_
  rintro e w1 ⟨wv, tv, fv, rfl, hD, q1⟩
  obtain ⟨a1, c1, a2, c2, a3, c3, rfl, rfl, rfl⟩ := hD.forms
  have q2 : B w1 (w1.alloc (.cells #[.slice a1 D.ws.length c1, .slice a2 D.ts.length c2, .slice a3 D.fs.length c3] 67)) := (B.refl w1).alloc _ _
  have oD := obj_new w1 (.cells #[.slice a1 D.ws.length c1, .slice a2 D.ts.length c2, .slice a3 D.fs.length c3] 67)
  have hD2 := hD.keepB q2
  have hDF := fun w' (q : B (w1.alloc (.cells #[.slice a1 D.ws.length c1, .slice a2 D.ts.length c2, .slice a3 D.fs.length c3] 67)) w') => And.intro (hD2.keepB q) (q.obj oD)
  have cN := dnew_right _ _ _ D _ hD2 hR hF
  have cR := fun w' (q : B (w1.alloc (.cells #[.slice a1 D.ws.length c1, .slice a2 D.ts.length c2, .slice a3 D.fs.length c3] 67)) w') => r11new_any _ _ _ D w' (hD2.keepB q) hR
  have k0 := obj_cell oD 0
  have k1 := obj_cell oD 1
  have k2 := obj_cell oD 2
  have q12 := q1.trans q2
  have HD := Lib.hid hDF
  clear hD hD2 hDF q1 q2 oD cD
  generalize hn1 : D.ws.length = n1 at *
  generalize hn2 : D.ts.length = n2 at *
  generalize hn3 : D.fs.length = n3 at *
  clear hn1 hn2 hn3
  go_wp2_with fail
  generalize w1.alloc (.cells #[.slice a1 n1 c1, .slice a2 n2 c2, .slice a3 n3 c3] 67) = w2 at *
  generalize w1.heap.size = DB at *
  refine cN.mono ?_
  rintro e w3 ⟨P, X, rfl, hPd, hM, hlo, _, q3⟩
  obtain ⟨_, oD3⟩ := HD.out _ q3
  have j0 := obj_cell oD3 0
  have j1 := obj_cell oD3 1
  have j2 := obj_cell oD3 2
  have cR3 := cR _ q3
  have HM := Lib.hid (And.intro hPd (And.intro hM (And.intro (q12.trans q3) q3)))
  clear cN cR oD3 hPd hM hlo k0 k1 k2 q12
  go_wp2_with fail
  refine cR3.mono ?_
  rintro e w4 ⟨rb, rfl, hH, q4⟩
  have HF := Lib.hid (And.intro hH q4)
  clear cR3 hH q4
  go_wp2_with fail
  try simp only [Exit.inBlock, Exit.then]
  go_ret3
  exact ⟨P, X, rb, _, _, _, rfl, HM.out.1, HM.out.2.1.keepB HF.out.2, (HD.out _ (HM.out.2.2.2.trans HF.out.2)).1, ⟨_, _, HF.out.1⟩, HM.out.2.2.1.trans HF.out.2⟩
end Go.Proofs.Ytkhaephmpifcmaa

namespace Go.Proofs.Ytkhaephmpifcmaa
open Go.RowKit
set_option linter.unusedVariables false
theorem tolW_bnd {ws : List Wr} (h : apartW wareOk ws = true) (n : ByteArray) : 0 ≤ tolW ws n ∧ tolW ws n ≤ 1000000 := by
  unfold tolW
  cases hf : ws.find? (fun r => r.n.toList == n.toList) with
  | none => simp
  | some r =>
    obtain ⟨i, hi⟩ := List.getElem?_of_mem (List.mem_of_find?_eq_some hf)
    have := (apart_at h hi).1
    unfold wareOk inB at this
    simp only [Bool.and_eq_true, decide_eq_true_eq] at this
    simp only
    omega
def SpB (s : Sp2) : Prop := 0 ≤ s.1 ∧ s.1 ≤ s.2 ∧ s.2 ≤ 21000000
theorem startF_bnd {d : Dk} (h : rightD d = true) : ∀ (fs : List Fl) (S : List Sp2), (∀ f ∈ fs, f ∈ d.fs) → (∀ s ∈ S, SpB s) → ∀ s ∈ startF d.ws S fs, SpB s
  | [], S, _, hS => hS
  | f :: fs, S, hf, hS => by
    obtain ⟨_, _, pW, _⟩ := right_parts9 h
    obtain ⟨i, hi⟩ := List.getElem?_of_mem (hf f List.mem_cons_self)
    obtain ⟨_, v0, v1⟩ := right_fill h hi
    have t := tolW_bnd pW f.n
    refine startF_bnd h fs (S.set (slotF d.ws f) (spanF d.ws f)) (fun g hg => hf g (List.mem_cons_of_mem _ hg)) (fun s hs => ?_)
    rcases List.mem_or_eq_of_mem_set hs with h1 | rfl
    · exact hS s h1
    · unfold SpB spanF
      simp only
      omega
theorem startD_bnd {d : Dk} (h : rightD d = true) : ∀ s ∈ startD d, SpB s :=
  startF_bnd h d.fs _ (fun f hf => hf) (fun s hs => by
    obtain rfl := List.eq_of_mem_replicate hs
    exact ⟨by decide, by decide, by decide⟩)
theorem sumHi_le : ∀ (W : List Sp2), (∀ s ∈ W, SpB s) → sumHi W ≤ (W.length : Int) * 21000000
  | [], _ => by simp [sumHi]
  | s :: W, h => by
    have a := sumHi_le W (fun x hx => h x (List.mem_cons_of_mem _ hx))
    have b := h s List.mem_cons_self
    unfold sumHi SpB at *
    simp only [List.map_cons, List.sum_cons, List.length_cons]
    rw [show ((W.length + 1 : Nat) : Int) = (W.length : Int) + 1 by omega, Int.add_mul]
    omega
theorem startD_wb {d : Dk} (h : rightD d = true) : (startD d).length ≤ 1000 ∧ WB (startD d) (0, 0) 21000000000 := by
  obtain ⟨p8, _, pW, _⟩ := right_parts9 h
  have hb := wares_in pW
  have c0 := count_pos d.ws hb
  have c1 := count_le d.ws hb
  have hl := startD_len d
  have hs := startD_bnd h
  have hm := sumHi_le (startD d) hs
  refine ⟨by omega, fun s hs2 => ⟨(hs s hs2).1, (hs s hs2).2.1⟩, by decide, ?_⟩
  simp only
  omega
/-- A statement's deck has four wells at least. -/
theorem seat_four {a b c d : Int} (ha : 0 ≤ a ∧ a ≤ 255) (hb : 0 ≤ b ∧ b ≤ 255) (hc : 0 ≤ c ∧ c ≤ 255) (hd : 0 ≤ d ∧ d ≤ 255) (l : List Nat) : 4 ≤ (startD (seatD a b c d l)).length := by
  rw [startD_len]
  have hR := seat_right ha hb hc hd l
  have h1 : 1 * 2 ≤ (a / 6 % 3 + 1) * (b / 6 % 4 + 2) := Int.mul_le_mul (by omega) (by omega) (by omega) (by omega)
  have h : countW (seatD a b c d l).ws = (a / 6 % 3 + 1) * (b / 6 % 4 + 2) + (1 * (c / 4 % 3 + 2) + 0) := by rfl
  omega
end Go.Proofs.Ytkhaephmpifcmaa
