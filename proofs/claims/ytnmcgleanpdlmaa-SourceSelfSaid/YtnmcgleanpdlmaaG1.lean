/-
  A law and what it rests on.
-/
import Derived.Test.YtnmcgleanpdlmaaY21
namespace Go.Proofs.Ytnmcgleanpdlmaa
open Go.RowKit
set_option linter.unusedVariables false

theorem tip_first (c d : Int) : tipIx (tips7 c d) nameT1 = some 0 := by
  refine tipIx_some (by unfold tips7; simp) ?_ (fun j hj h => by omega)
  unfold tips7
  kernel_rfl
set_option maxRecDepth 100000 in
set_option maxHeartbeats 8000000 in
theorem self14_any (a b c d : Int) (lv : Value) (ll : List Nat) (v : Nat) (ha : 0 ≤ a ∧ a ≤ 255) (hb : 0 ≤ b ∧ b ≤ 255) (hc : 0 ≤ c ∧ c ≤ 255) (hd : 0 ≤ d ∧ d ≤ 255) (hv : v < 4294967296) (w : World) (hU : IsU32s w lv ll) :
    Calls Try.prog 4 #[.int .u8 a, .int .u8 b, .int .u8 c, .int .u8 d, lv, .int .u32 (v : Int)] w fun e w' => e = .returned (.bool true) ∧ B w w' := by
  have ck := known14_any w
  have cB := fun h20 w' (q : B w w') => boards14_any a b c d lv ll h20 ha hb hc hd w' (hU.keep q)
  obtain ⟨lo, lc, rfl⟩ := hU.form
  obtain ⟨ln, hln⟩ : ∃ ln, ll.length = ln := ⟨_, rfl⟩
  rw [hln] at cB ⊢
  by_cases h20 : ln ≤ 20
  · have hlB : decide (20 < (ln : Int)) = false := decide_eq_false (by omega)
    have hlN : decide (20 < ln) = false := decide_eq_false (by omega)
    have hR := seat_right ha hb hc hd ll
    have hl20 : ll.length ≤ 20 := by omega
    obtain ⟨hc2, hc192, hcI⟩ := seat_cnt (a := a) (b := b) (c := c) (d := d) ll ha hb hc hd
    obtain ⟨nn, hnn⟩ : ∃ nn, cntD (seatD a b c d ll) = nn := ⟨_, rfl⟩
    obtain ⟨v0, hv0, hF0⟩ := first_fills hR
    obtain ⟨m, hm⟩ : ∃ m, v % 20000000 = m := ⟨_, rfl⟩
    have hm2 : m < 20000000 := by omega
    have hmT : (v : Int).tmod 20000000 = (m : Int) := by rw [← hm]; exact (Int.ofNat_tmod v 20000000).symm
    obtain ⟨V, hV⟩ : ∃ V : Int, (m : Int) + 1 = V := ⟨_, rfl⟩
    have y1 : IntKind.u32.wrap (m : Int) = (m : Int) := by rw [IntKind.wrap_u32]; omega
    have y2 : IntKind.i64.wrap (m : Int) = (m : Int) := by rw [IntKind.wrap_i64]; omega
    have y3 : IntKind.i64.wrap ((m : Int) + 1) = V := by rw [IntKind.wrap_i64]; omega
    have hVB : 1 ≤ V ∧ V ≤ 20000000 := by omega
    have hin : inB V 1 20000000 = true := by unfold inB; simp; omega
    have hix := seat_plate a b c d ll ha hb
    have hen : endsX (seatD a b c d ll) ⟨⟨namePlate, 0, 0⟩, ⟨namePlate, 0, 0⟩, V, nameT1, false⟩ = some (0, 0) := by
      unfold endsX
      simp only [hix]
    have one := none_run hv0
    have slf := self_run hv0 hen hin
    have tch := self_touch hen (by omega)
    have hsx : strokesX (seatD a b c d ll) ⟨⟨namePlate, 0, 0⟩, ⟨namePlate, 0, 0⟩, V, nameT1, false⟩ = cntX (cap7 c - 4 * err7 d) V := by
      unfold strokesX strokesT
      show (match tipIx (tips7 c d) nameT1 with
        | none => Except.error 28
        | some i => if inB V 1 20000000 = true then (match (tips7 c d)[i]? with
            | some t => cntX (t.x - 4 * t.z) V
            | none => Except.error 0) else Except.error 20) = _
      rw [tip_first]
      simp only
      rw [if_pos hin]
      rfl
    have htr : ∃ t, (tips7 c d)[0]? = some t ∧ t.x = cap7 c ∧ t.z = err7 d ∧ tipOk t = true := by
      obtain ⟨_, _, _, pT⟩ := right_parts9 hR
      refine ⟨⟨nameT1, cap7 c, filt7 d, err7 d, outerOf (c % 3).toNat⟩, rfl, rfl, rfl, ?_⟩
      exact (apart_at pT (show (seatD a b c d ll).ts[0]? = some _ from rfl)).1
    obtain ⟨t, ht0, htx, htz, htok⟩ := htr
    have hcp := cnt_parts htok hin
    rw [htx, htz, ← hsx] at hcp
    rw [hnn] at hc2 hc192 hF0
    have hserr := fun n (h : strokesX (seatD a b c d ll) ⟨⟨namePlate, 0, 0⟩, ⟨namePlate, 0, 0⟩, V, nameT1, false⟩ = .error n) => strokes_errs (L := (seatD a b c d ll).ts) (n := nameT1) (v := V) (k := n) h
    have hoI : OpsI [⟨⟨namePlate, 0, 0⟩, ⟨namePlate, 0, 0⟩, V, nameT1, false⟩] := fun x hx => by
      simp only [List.mem_cons, List.not_mem_nil, or_false] at hx
      subst hx
      simp [I64]
      omega
    have hVI : I64 V := by unfold I64; omega
    have cB1 := cB (by omega)
    have HC := Lib.hid (And.intro hcp (And.intro hserr (And.intro tch (And.intro hnn ht0))))
    have HS := Lib.hid (And.intro one slf)
    have HN := Lib.hid (And.intro hc2 hc192)
    clear cB hU hln hm hV hix hen hsx hcI hv0 one slf tch hcp hserr htx htz htok hnn hF0 hR hin hm2 ht0 hc2 hc192
    go_enter Try.func4, Try.ntmps4
    go_wp2_with fail
    refine ck.mono ?_
    rintro e w0 ⟨rfl, q0⟩
    go_wp2_with fail
    refine (cB1 _ q0).mono ?_
    rintro e w1 ⟨P, X, rb, wv, tv, fv, rfl, hPd, hM, hDk, hRb, q1⟩
    have c1 := fun w' (q : B w1 w') => srun_any _ hPd w' (hM.keepB q) (seat_fs hl20) (.slice none 0 0) [] (isFls_nil _) flsI_nil (by simp) (.slice none 0 0) [] (isOps_nil _) opsI_nil
    have c2 := fun w' (q : B w1 w') lv hL => srun_any _ hPd w' (hM.keepB q) (seat_fs hl20) (.slice none 0 0) [] (isFls_nil _) flsI_nil (by simp) lv [⟨⟨namePlate, 0, 0⟩, ⟨namePlate, 0, 0⟩, V, nameT1, false⟩] hL hoI
    have c3 := fun w' (q : B w1 w') lv hL => stouch_any _ hPd w' (hM.keepB q) (seat_fs hl20) lv [⟨⟨namePlate, 0, 0⟩, ⟨namePlate, 0, 0⟩, V, nameT1, false⟩] hL hoI (by simp)
    obtain ⟨gw, cw, gt, ct, oB, _⟩ := hRb
    have hts := hDk.ts
    obtain ⟨ao, ac, bo, bc, co, cc, rfl, rfl, rfl⟩ := hDk.forms
    have HT0 := HC.out.2.2.2.2
    have eT : (seatD a b c d ll).ts = tips7 c d := rfl
    have HTS := Lib.hid hts
    generalize hn1 : (seatD a b c d ll).ws.length = n1 at *
    generalize hn2 : (seatD a b c d ll).ts.length = n2 at *
    generalize hn3 : (seatD a b c d ll).fs.length = n3 at *
    have HP := Lib.hid (And.intro (q0.trans q1) oB)
    have h0t : 0 < (seatD a b c d ll).ts.length := by rw [eT]; unfold tips7; simp
    obtain ⟨ta, cap9, e9, _, _, hrec⟩ := hts.at_ h0t
    have ht9 : (seatD a b c d ll).ts[0] = t := by
      have h : (seatD a b c d ll).ts[0]? = some t := HT0
      rw [List.getElem?_eq_getElem h0t] at h
      exact Option.some.inj h
    have ea : ta.add (0 * 5) = ta := by cases ta; simp [Addr.add]
    rw [ht9, ea] at hrec
    simp only [Value.slice.injEq] at e9
    obtain ⟨rfl, -, rfl⟩ := e9
    have hp1 : 0 < n2 := by omega
    have hp2 : (0 : Int) < (n2 : Int) := by omega
    obtain ⟨N9, X9, Y9, Z9, SL9⟩ := t
    obtain ⟨g1, g2, g3, g4, sv9, g5, g6⟩ := hrec
    simp only at g1 g2 g3 g4 g5 g6
    have cD0 := fun w' (q : B w1 w') => r11count_any N9 X9 Y9 Z9 sv9 SL9 V hVI w' (IsSecs.keepB g6 q)
    obtain ⟨so9, sc9, rfl⟩ := secs_form g6
    obtain ⟨sn9, hsn9⟩ : ∃ sn9, SL9.length = sn9 := ⟨_, rfl⟩
    rw [hsn9] at g5 cD0
    have HG := Lib.hid (And.intro g1 (And.intro g2 (And.intro g3 (And.intro g4 g5))))
    generalize P.b = pb at *
    clear hM cB1 q0 q1 hDk hPd oB hoI g1 g2 g3 g4 g5 g6 hsn9 ht9 ea hts HT0 eT HTS hn1 hn2 hn3 h0t
    go_wp2_with fail
    have oH := obj_new w1 (.cells #[.string ⟨#[112, 108, 97, 116, 101]⟩, .int .i64 0, .int .i64 0, .string ⟨#[112, 108, 97, 116, 101]⟩, .int .i64 0, .int .i64 0, .int .i64 V, .string ⟨#[116, 49]⟩, .bool false] 52)
    have qH : B w1 (w1.alloc (.cells #[.string ⟨#[112, 108, 97, 116, 101]⟩, .int .i64 0, .int .i64 0, .string ⟨#[112, 108, 97, 116, 101]⟩, .int .i64 0, .int .i64 0, .int .i64 V, .string ⟨#[116, 49]⟩, .bool false] 52)) := (B.refl _).alloc _ _
    have hOps := ops_lit w1 [⟨⟨namePlate, 0, 0⟩, ⟨namePlate, 0, 0⟩, V, nameT1, false⟩] (by simp)
    have hOps' : IsOps (w1.alloc (.cells #[.string ⟨#[112, 108, 97, 116, 101]⟩, .int .i64 0, .int .i64 0, .string ⟨#[112, 108, 97, 116, 101]⟩, .int .i64 0, .int .i64 0, .int .i64 V, .string ⟨#[116, 49]⟩, .bool false] 52)) (.slice (some ⟨w1.heap.size, 0, none⟩) 1 1) [⟨⟨namePlate, 0, 0⟩, ⟨namePlate, 0, 0⟩, V, nameT1, false⟩] := hOps
    clear hOps
    generalize w1.alloc (.cells #[.string ⟨#[112, 108, 97, 116, 101]⟩, .int .i64 0, .int .i64 0, .string ⟨#[112, 108, 97, 116, 101]⟩, .int .i64 0, .int .i64 0, .int .i64 V, .string ⟨#[116, 49]⟩, .bool false] 52) = w2 at *
    generalize w1.heap.size = H at *
    refine Calls.mono (c1 _ qH) ?_
    rintro e w3 hR
    obtain ⟨g1, rfl, r1, q3⟩ := hR.okd HS.out.1
    rw [HC.out.2.2.2.1] at r1 ⊢
    have q13 := qH.trans q3
    clear hR c1
    go_wp2_with fail
    refine Calls.mono (c2 _ q13 _ (hOps'.keepB q3)) ?_
    rintro e w4 hR
    obtain ⟨g2, rfl, r2, q4⟩ := hR.okd HS.out.2
    rw [HC.out.2.2.2.1] at r2 ⊢
    have q14 := q13.trans q4
    have r14 := r1.keep q4
    have q24 := q3.trans q4
    clear hR c2 r1 q13 q3
    go_wp2_with fail
    refine Calls.mono (c3 _ q14 _ (hOps'.keepB q24)) ?_
    rintro e w5 hR
    have htch := HC.out.2.2.1
    have hcp := HC.out.1
    cases hpx : partsX ⟨N9, X9, Y9, Z9, SL9⟩ V with
    | error n =>
      rw [hpx] at hcp cD0
      simp only [cntV] at hcp cD0
      have hn1 := HC.out.2.1 n hcp.symm
      rw [← hcp] at htch
      simp only at htch
      obtain ⟨rfl, q5⟩ := hR.erd htch
      have f1 : ((n : Int) != 0) = true := by simp; omega
      have f2 : ((n : Int) != (n : Int)) = false := by simp
      have q15 := q14.trans q5
      have r15 := r14.keep q5
      have r25 := r2.keep q5
      obtain ⟨G1, G2, G3, G4, G5⟩ := HG.out
      have s0 := obj_cell (q15.obj HP.out.2) 1
      have s1 := q15.keep G1
      have s2 := q15.keep G2
      have s3 := q15.keep G3
      have s4 := q15.keep G4
      have s5 := q15.keep G5
      have s6 := obj_cell ((q24.trans q5).obj oH) 6
      have cD := fun w' (q : B w5 w') => cD0 w' (q15.trans q)
      obtain ⟨w6, rfl⟩ : ∃ w6 : World, w6 = w5 := ⟨_, rfl⟩
      have qd : B w6 w6.drew := (B.refl _).drew
      have HK := Lib.hid (And.intro q15 (And.intro r15 r25))
      clear hR htch hcp G1 G2 G3 G4 G5 q14 q24 q5 r14 r2 q15 r15 r25 cD0 c3 oH hOps' hpx
      go_wp2_with fail
      refine wp_region_noPanic ?_
      refine wp_region_seq (S := fun w' => w'.cell? ⟨rb, 1, none⟩ = some (.slice (some ta) n2 bc) ∧ w'.cell? ta = some (.string N9) ∧ w'.cell? ⟨ta.block, ta.off + 1, none⟩ = some (.int .i64 X9) ∧ w'.cell? ⟨ta.block, ta.off + 2, none⟩ = some (.int .i64 Y9) ∧ w'.cell? ⟨ta.block, ta.off + 3, none⟩ = some (.int .i64 Z9) ∧ w'.cell? ⟨ta.block, ta.off + 4, none⟩ = some (.slice so9 sn9 sc9) ∧ w'.cell? ⟨H, 6, none⟩ = some (.int .i64 V) ∧ B w6 w') [(0, 0), (1, 0), (2, 0), (3, 0), (4, 0), (5, 0), (6, 0), (7, 0), (8, 0), (9, 0), (10, 0), (11, 2), (12, 0), (13, 0), (14, 0), (15, 0), (16, 0)] [0, 1, 2, 4, 8, 16, 32, 0, 128, 256, 512, 1088, 2048, 4096, 4096, 16383, 65535] [0, 1, 2, 4, 8, 16, 32, 0, 128, 256, 512, 1088, 2048, 4096, 4096, 8192, 16384] (by kernel_rfl) (by kernel_rfl) (fun _ _ _ _ _ h => h) ?_ (fun hH => ?_)
      · exact ⟨qd.keep s0, qd.keep s1, qd.keep s2, qd.keep s3, qd.keep s4, qd.keep s5, qd.keep s6, qd⟩
      refine wpSeq_take (d := 68) (v := ?_) rfl rfl (by kernel_rfl) (fun w hS => ?_) ?_
      rotate_left
      · go_simp <;> with_reducible rfl
      dsimp only [List.set_cons_zero, List.set_cons_succ]
      refine wpSeq_take (d := 69) (v := ?_) rfl rfl (by kernel_rfl) (fun w hS => ?_) ?_
      rotate_left
      · go_simp <;> with_reducible rfl
      dsimp only [List.set_cons_zero, List.set_cons_succ]
      refine wpSeq_take (d := 70) (v := ?_) rfl rfl (by kernel_rfl) (fun w hS => ?_) ?_
      rotate_left
      · go_simp <;> with_reducible rfl
      dsimp only [List.set_cons_zero, List.set_cons_succ]
      refine wpSeq_take (d := 71) (v := ?_) rfl rfl (by kernel_rfl) (fun w hS => ?_) ?_
      rotate_left
      · go_simp <;> with_reducible rfl
      dsimp only [List.set_cons_zero, List.set_cons_succ]
      refine wpSeq_take (d := 72) (v := ?_) rfl rfl (by kernel_rfl) (fun w hS => ?_) ?_
      rotate_left
      · go_simp <;> with_reducible rfl
      dsimp only [List.set_cons_zero, List.set_cons_succ]
      refine wpSeq_take (d := 73) (v := ?_) rfl rfl (by kernel_rfl) (fun w hS => ?_) ?_
      rotate_left
      · go_simp <;> with_reducible rfl
      dsimp only [List.set_cons_zero, List.set_cons_succ]
      refine wpSeq_take (d := 74) (v := ?_) rfl rfl (by kernel_rfl) (fun w hS => ?_) ?_
      rotate_left
      · go_simp <;> with_reducible rfl
      dsimp only [List.set_cons_zero, List.set_cons_succ]
      refine wpSeq_take (d := 75) (v := ?_) rfl rfl (by kernel_rfl) (fun w hS => ?_) ?_
      rotate_left
      · go_simp <;> with_reducible rfl
      dsimp only [List.set_cons_zero, List.set_cons_succ]
      refine wpSeq_take (d := 76) (v := ?_) rfl rfl (by kernel_rfl) (fun w hS => ?_) ?_
      rotate_left
      · go_simp <;> with_reducible rfl
      dsimp only [List.set_cons_zero, List.set_cons_succ]
      refine wpSeq_take (d := 77) (v := ?_) rfl rfl (by kernel_rfl) (fun w hS => ?_) ?_
      rotate_left
      · go_simp <;> with_reducible rfl
      dsimp only [List.set_cons_zero, List.set_cons_succ]
      refine wpSeq_take (d := 78) (v := ?_) rfl rfl (by kernel_rfl) (fun w hS => ?_) ?_
      rotate_left
      · go_simp <;> with_reducible rfl
      dsimp only [List.set_cons_zero, List.set_cons_succ]
      refine wpSeq_call rfl (by kernel_rfl) (fun K hK => ?_)
      go_simp
      (with_reducible refine (cD _ (hH.2.2.2.2.2.2.2)).mono ?_)
      rintro e w' ⟨rfl, hq⟩
      refine hK.out _ _ ?_ (fun hH => ?_)
      · exact ⟨hq.keep (hH.1), hq.keep (hH.2.1), hq.keep (hH.2.2.1), hq.keep (hH.2.2.2.1), hq.keep (hH.2.2.2.2.1), hq.keep (hH.2.2.2.2.2.1), hq.keep (hH.2.2.2.2.2.2.1), (hH.2.2.2.2.2.2.2).trans hq⟩
      clear hK
      refine wpSeq_take (d := 67) (v := ?_) rfl rfl (by kernel_rfl) (fun w hS => ?_) ?_
      rotate_left
      · go_simp <;> with_reducible rfl
      dsimp only [List.set_cons_zero, List.set_cons_succ]
      refine wpSeq_take (d := 80) (v := ?_) rfl rfl (by kernel_rfl) (fun w hS => ?_) ?_
      rotate_left
      · go_simp <;> with_reducible rfl
      dsimp only [List.set_cons_zero, List.set_cons_succ]
      refine wpSeq_take (d := 81) (v := ?_) rfl rfl (by kernel_rfl) (fun w hS => ?_) ?_
      rotate_left
      · go_simp <;> with_reducible rfl
      dsimp only [List.set_cons_zero, List.set_cons_succ]
      refine wpSeq_take (d := 23) (v := ?_) rfl rfl (by kernel_rfl) (fun w hS => ?_) ?_
      rotate_left
      · go_simp <;> with_reducible rfl
      dsimp only [List.set_cons_zero, List.set_cons_succ]
      refine wpSeq_take (d := 24) (v := ?_) rfl rfl (by kernel_rfl) (fun w hS => ?_) ?_
      rotate_left
      · go_simp <;> with_reducible rfl
      dsimp only [List.set_cons_zero, List.set_cons_succ]
      refine wpSeq_done ?_
      refine NoPanic.normal ?_
      have HJ := Lib.hid (HK.out.1.trans hH.2.2.2.2.2.2.2)
      have cL := fun w8 (q : B w6 w8) => longs_eq _ _ g1 g2 nn v0 (by have := HN.out.2; omega) w8 (HK.out.2.1.keep q) (HK.out.2.2.keep q)
      have cL1 := cL _ hH.2.2.2.2.2.2.2
      clear cL cD s0 s1 s2 s3 s4 s5 s6
      obtain ⟨w7, rfl⟩ : ∃ w7 : World, w7 = w' := ⟨_, rfl⟩
      clear hH
      go_wp2_with fail
      refine Calls.mono cL1 ?_
      rintro e w8 ⟨rfl, q8⟩
      have HZ := Lib.hid (HP.out.1.trans (HJ.out.trans q8))
      clear q8 cL1
      go_wp2
      try simp only [Exit.inBlock, Exit.then]
      go_ret
      exact ⟨by first | rfl | simp, HZ.out⟩
    | ok l =>
      rw [hpx] at hcp cD0
      simp only [cntV] at hcp cD0
      rw [← hcp] at htch
      simp only at htch
      obtain ⟨g3, rfl, r3, q5⟩ := hR.okd htch
      rw [HC.out.2.2.2.1] at r3
      try rw [HC.out.2.2.2.1]
      have r3' := r3
      obtain ⟨n3', hn3'⟩ : ∃ n3', cntL l = n3' := ⟨_, rfl⟩
      rw [hn3'] at r3 cD0
      obtain ⟨u0, u1, yt, u3⟩ := r3.at_ (i := 0) (by have := HN.out.1; omega)
      have e0 : ((List.replicate nn (0 : Int)).set 0 (2 * n3')).getD 0 0 = 2 * n3' := by
        rw [List.getD_eq_getElem?_getD, List.getElem?_set_self (by rw [List.length_replicate]; have := HN.out.1; omega)]
        rfl
      rw [e0] at yt
      obtain ⟨k2, hk2⟩ : ∃ k2, 2 * n3' = k2 := ⟨_, rfl⟩
      have hbn : 0 ≤ n3' ∧ n3' ≤ 8000 := by
        have h := strokes_bounds (L := (seatD a b c d ll).ts) (n := nameT1) (v := V) (k := n3') (tips_right (seat_right ha hb hc hd ll)) (by have := hcp.symm; rw [hn3'] at this; exact this)
        exact h
      have y9 : IntKind.i64.wrap (2 * n3') = k2 := by rw [IntKind.wrap_i64]; omega
      rw [hk2] at yt
      have f3 : decide ((0 : Int) < (nn : Int)) = true := decide_eq_true (by have := HN.out.1; omega)
      have f4 : decide (0 < nn) = true := decide_eq_true (by have := HN.out.1; omega)
      have f5 : (0 : Int) < (nn : Int) := by have := HN.out.1; omega
      clear u0 u1 u3 e0 r3 r3' hk2 hn3' hbn
      have q15 := q14.trans q5
      have r15 := r14.keep q5
      have r25 := r2.keep q5
      obtain ⟨G1, G2, G3, G4, G5⟩ := HG.out
      have s0 := obj_cell (q15.obj HP.out.2) 1
      have s1 := q15.keep G1
      have s2 := q15.keep G2
      have s3 := q15.keep G3
      have s4 := q15.keep G4
      have s5 := q15.keep G5
      have s6 := obj_cell ((q24.trans q5).obj oH) 6
      have cD := fun w' (q : B w5 w') => cD0 w' (q15.trans q)
      obtain ⟨w6, rfl⟩ : ∃ w6 : World, w6 = w5 := ⟨_, rfl⟩
      have qd : B w6 w6.drew := (B.refl _).drew
      have HK := Lib.hid (And.intro q15 (And.intro r15 r25))
      clear hR htch hcp G1 G2 G3 G4 G5 q14 q24 q5 r14 r2 q15 r15 r25 cD0 c3 oH hOps' hpx
      go_wp2_with fail
      refine wp_region_noPanic ?_
      refine wp_region_seq (S := fun w' => w'.cell? ⟨rb, 1, none⟩ = some (.slice (some ta) n2 bc) ∧ w'.cell? ta = some (.string N9) ∧ w'.cell? ⟨ta.block, ta.off + 1, none⟩ = some (.int .i64 X9) ∧ w'.cell? ⟨ta.block, ta.off + 2, none⟩ = some (.int .i64 Y9) ∧ w'.cell? ⟨ta.block, ta.off + 3, none⟩ = some (.int .i64 Z9) ∧ w'.cell? ⟨ta.block, ta.off + 4, none⟩ = some (.slice so9 sn9 sc9) ∧ w'.cell? ⟨H, 6, none⟩ = some (.int .i64 V) ∧ B w6 w') [(0, 0), (1, 0), (2, 0), (3, 0), (4, 0), (5, 0), (6, 0), (7, 0), (8, 0), (9, 0), (10, 0), (11, 2), (12, 0), (13, 0), (14, 0), (15, 0), (16, 0)] [0, 1, 2, 4, 8, 16, 32, 0, 128, 256, 512, 1088, 2048, 4096, 4096, 16383, 65535] [0, 1, 2, 4, 8, 16, 32, 0, 128, 256, 512, 1088, 2048, 4096, 4096, 8192, 16384] (by kernel_rfl) (by kernel_rfl) (fun _ _ _ _ _ h => h) ?_ (fun hH => ?_)
      · exact ⟨qd.keep s0, qd.keep s1, qd.keep s2, qd.keep s3, qd.keep s4, qd.keep s5, qd.keep s6, qd⟩
      refine wpSeq_take (d := 68) (v := ?_) rfl rfl (by kernel_rfl) (fun w hS => ?_) ?_
      rotate_left
      · go_simp <;> with_reducible rfl
      dsimp only [List.set_cons_zero, List.set_cons_succ]
      refine wpSeq_take (d := 69) (v := ?_) rfl rfl (by kernel_rfl) (fun w hS => ?_) ?_
      rotate_left
      · go_simp <;> with_reducible rfl
      dsimp only [List.set_cons_zero, List.set_cons_succ]
      refine wpSeq_take (d := 70) (v := ?_) rfl rfl (by kernel_rfl) (fun w hS => ?_) ?_
      rotate_left
      · go_simp <;> with_reducible rfl
      dsimp only [List.set_cons_zero, List.set_cons_succ]
      refine wpSeq_take (d := 71) (v := ?_) rfl rfl (by kernel_rfl) (fun w hS => ?_) ?_
      rotate_left
      · go_simp <;> with_reducible rfl
      dsimp only [List.set_cons_zero, List.set_cons_succ]
      refine wpSeq_take (d := 72) (v := ?_) rfl rfl (by kernel_rfl) (fun w hS => ?_) ?_
      rotate_left
      · go_simp <;> with_reducible rfl
      dsimp only [List.set_cons_zero, List.set_cons_succ]
      refine wpSeq_take (d := 73) (v := ?_) rfl rfl (by kernel_rfl) (fun w hS => ?_) ?_
      rotate_left
      · go_simp <;> with_reducible rfl
      dsimp only [List.set_cons_zero, List.set_cons_succ]
      refine wpSeq_take (d := 74) (v := ?_) rfl rfl (by kernel_rfl) (fun w hS => ?_) ?_
      rotate_left
      · go_simp <;> with_reducible rfl
      dsimp only [List.set_cons_zero, List.set_cons_succ]
      refine wpSeq_take (d := 75) (v := ?_) rfl rfl (by kernel_rfl) (fun w hS => ?_) ?_
      rotate_left
      · go_simp <;> with_reducible rfl
      dsimp only [List.set_cons_zero, List.set_cons_succ]
      refine wpSeq_take (d := 76) (v := ?_) rfl rfl (by kernel_rfl) (fun w hS => ?_) ?_
      rotate_left
      · go_simp <;> with_reducible rfl
      dsimp only [List.set_cons_zero, List.set_cons_succ]
      refine wpSeq_take (d := 77) (v := ?_) rfl rfl (by kernel_rfl) (fun w hS => ?_) ?_
      rotate_left
      · go_simp <;> with_reducible rfl
      dsimp only [List.set_cons_zero, List.set_cons_succ]
      refine wpSeq_take (d := 78) (v := ?_) rfl rfl (by kernel_rfl) (fun w hS => ?_) ?_
      rotate_left
      · go_simp <;> with_reducible rfl
      dsimp only [List.set_cons_zero, List.set_cons_succ]
      refine wpSeq_call rfl (by kernel_rfl) (fun K hK => ?_)
      go_simp
      (with_reducible refine (cD _ (hH.2.2.2.2.2.2.2)).mono ?_)
      rintro e w' ⟨rfl, hq⟩
      refine hK.out _ _ ?_ (fun hH => ?_)
      · exact ⟨hq.keep (hH.1), hq.keep (hH.2.1), hq.keep (hH.2.2.1), hq.keep (hH.2.2.2.1), hq.keep (hH.2.2.2.2.1), hq.keep (hH.2.2.2.2.2.1), hq.keep (hH.2.2.2.2.2.2.1), (hH.2.2.2.2.2.2.2).trans hq⟩
      clear hK
      refine wpSeq_take (d := 67) (v := ?_) rfl rfl (by kernel_rfl) (fun w hS => ?_) ?_
      rotate_left
      · go_simp <;> with_reducible rfl
      dsimp only [List.set_cons_zero, List.set_cons_succ]
      refine wpSeq_take (d := 80) (v := ?_) rfl rfl (by kernel_rfl) (fun w hS => ?_) ?_
      rotate_left
      · go_simp <;> with_reducible rfl
      dsimp only [List.set_cons_zero, List.set_cons_succ]
      refine wpSeq_take (d := 81) (v := ?_) rfl rfl (by kernel_rfl) (fun w hS => ?_) ?_
      rotate_left
      · go_simp <;> with_reducible rfl
      dsimp only [List.set_cons_zero, List.set_cons_succ]
      refine wpSeq_take (d := 23) (v := ?_) rfl rfl (by kernel_rfl) (fun w hS => ?_) ?_
      rotate_left
      · go_simp <;> with_reducible rfl
      dsimp only [List.set_cons_zero, List.set_cons_succ]
      refine wpSeq_take (d := 24) (v := ?_) rfl rfl (by kernel_rfl) (fun w hS => ?_) ?_
      rotate_left
      · go_simp <;> with_reducible rfl
      dsimp only [List.set_cons_zero, List.set_cons_succ]
      refine wpSeq_done ?_
      refine NoPanic.normal ?_
      have HJ := Lib.hid (HK.out.1.trans hH.2.2.2.2.2.2.2)
      have cL := fun w8 (q : B w6 w8) => longs_eq _ _ g1 g2 nn v0 (by have := HN.out.2; omega) w8 (HK.out.2.1.keep q) (HK.out.2.2.keep q)
      have cL1 := cL _ hH.2.2.2.2.2.2.2
      replace yt := hH.2.2.2.2.2.2.2.keep yt
      clear cL cD s0 s1 s2 s3 s4 s5 s6
      obtain ⟨w7, rfl⟩ : ∃ w7 : World, w7 = w' := ⟨_, rfl⟩
      clear hH
      go_wp2_with fail
      refine Calls.mono cL1 ?_
      rintro e w8 ⟨rfl, q8⟩
      replace yt := q8.keep yt
      have HZ := Lib.hid (HP.out.1.trans (HJ.out.trans q8))
      clear q8 cL1
      go_wp2
      try simp only [Exit.inBlock, Exit.then]
      go_ret
      exact ⟨by first | rfl | simp, HZ.out⟩
  · have hlB : decide (20 < (ln : Int)) = true := decide_eq_true (by omega)
    have hlN : decide (20 < ln) = true := decide_eq_true (by omega)
    clear cB hU hln
    go_enter Try.func4, Try.ntmps4
    go_wp2_with fail
    refine ck.mono ?_
    rintro e w0 ⟨rfl, q0⟩
    have HQ := Lib.hid q0
    clear ck q0
    go_wp2
    go_ret
    exact ⟨rfl, HQ.out⟩
theorem self14_ok (a b c d : Int) (lv : Value) (ll : List Nat) (v : Int) (h1 : (Lit.int .u8 a).wf = true) (h2 : (Lit.int .u8 b).wf = true) (h3 : (Lit.int .u8 c).wf = true) (h4 : (Lit.int .u8 d).wf = true) (h5 : (Lit.int .u32 v).wf = true) (w : World) (hU : IsU32s w lv ll) :
    Calls Try.prog 4 #[.int .u8 a, .int .u8 b, .int .u8 c, .int .u8 d, lv, .int .u32 v] w fun e w' => e = .returned (.bool true) ∧ B w w' := by
  obtain ⟨n1, n2⟩ := u32_wf h5
  have h := self14_any a b c d lv ll v.toNat (u8_wf h1) (u8_wf h2) (u8_wf h3) (u8_wf h4) (by omega) w hU
  rw [show ((v.toNat : Nat) : Int) = v by omega] at h
  exact h
end Go.Proofs.Ytnmcgleanpdlmaa
