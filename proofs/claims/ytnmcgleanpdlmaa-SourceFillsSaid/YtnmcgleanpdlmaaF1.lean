/-
  A law and what it rests on.
-/
import Derived.Test.YtnmcgleanpdlmaaY21
namespace Go.Proofs.Ytnmcgleanpdlmaa
open Go.RowKit
set_option linter.unusedVariables false

theorem none_fill {d : Dk} {v0 : List Int} (h0 : fillsX d d.fs (List.replicate (cntD d) 0) = .ok v0) (hx : ixW d ⟨nameNone, 0, 0⟩ = none) (v : Int) : srunX d [⟨nameNone, 0, 0, v⟩] [] = .error 26 := by
  rw [srun_first h0]
  have f1 : fillX d v0 ⟨nameNone, 0, 0, v⟩ = .error 26 := by
    unfold fillX
    simp only [hx]
  rw [fillsX, f1]
theorem getD_set_ne {v : List Int} {i j : Nat} (h : i ≠ j) (x : Int) : (v.set i x).getD j 0 = v.getD j 0 := by
  rw [List.getD_eq_getElem?_getD, List.getD_eq_getElem?_getD, List.getElem?_set_ne h]
theorem getD_set_self {v : List Int} {i : Nat} (h : i < v.length) (x : Int) : (v.set i x).getD i 0 = x := by
  rw [List.getD_eq_getElem?_getD, List.getElem?_set_self h]; rfl
set_option maxRecDepth 100000 in
set_option maxHeartbeats 8000000 in
theorem fills14_any (a b c d : Int) (lv : Value) (ll : List Nat) (v : Int) (k : Nat) (ha : 0 ≤ a ∧ a ≤ 255) (hb : 0 ≤ b ∧ b ≤ 255) (hc : 0 ≤ c ∧ c ≤ 255) (hd : 0 ≤ d ∧ d ≤ 255) (hv : I64 v) (hk : k < 256) (w : World) (hU : IsU32s w lv ll) :
    Calls Try.prog 6 #[.int .u8 a, .int .u8 b, .int .u8 c, .int .u8 d, lv, .int .i64 v, .int .u8 (k : Int)] w fun e w' => e = .returned (.bool true) ∧ B w w' := by
  have ck := known14_any w
  have cB := fun h20 w' (q : B w w') => boards14_any a b c d lv ll h20 ha hb hc hd w' (hU.keep q)
  obtain ⟨lo, lc, rfl⟩ := hU.form
  obtain ⟨ln, hln⟩ : ∃ ln, ll.length = ln := ⟨_, rfl⟩
  rw [hln] at cB ⊢
  by_cases h20 : ln ≤ 20
  · have hlB : decide (20 < (ln : Int)) = false := decide_eq_false (by omega)
    have hlN : decide (20 < ln) = false := decide_eq_false (by omega)
    have hR := seat_right ha hb hc hd ll
    obtain ⟨hc2, hc192, hcI⟩ := seat_cnt (a := a) (b := b) (c := c) (d := d) ll ha hb hc hd
    have hwb := seat_wares ha hb hc hd
    have hA := seat_names a b c d
    obtain ⟨nn, hnn⟩ : ∃ nn, cntD (seatD a b c d ll) = nn := ⟨_, rfl⟩
    rw [hnn] at hc2 hc192 hcI
    obtain ⟨kk, hkk⟩ : ∃ kk, k % nn = kk := ⟨_, rfl⟩
    have hkn : kk < nn := by rw [← hkk]; exact Nat.mod_lt _ (by omega)
    obtain ⟨n9, r9, c9, hat⟩ : ∃ n r q, atW (wares7 a b c d) (kk : Int) = some (n, r, q) := by
      have h := at_is (wares7 a b c d) (kk : Int) hwb
      rw [decide_eq_true (show (0 : Int) ≤ kk by omega), decide_eq_true (show (kk : Int) < countW (wares7 a b c d) by omega)] at h
      obtain ⟨⟨n, r, q⟩, hx⟩ := Option.isSome_iff_exists.1 h
      exact ⟨n, r, q, hx⟩
    have hix : ixW (seatD a b c d ll) ⟨n9, r9, c9⟩ = some kk := ix_at hwb hA hat
    obtain ⟨g0, g1, g2, g3⟩ := at_range (wares7 a b c d) kk n9 r9 c9 hwb hat
    obtain ⟨v0, hv0, hF0⟩ := first_fills hR
    have two := two_fills (v := v) hv0 hix
    have one := none_run hv0
    have non := none_fill hv0 (seat_none a b c d ll) (-1)
    have hT : (k : Int).tmod (nn : Int) = (kk : Int) := by rw [← hkk]; exact (Int.ofNat_tmod k nn).symm
    have hnz : ¬ (nn : Int) = 0 := by omega
    have hnz' : ¬ nn = 0 := by omega
    have hl20 : ll.length ≤ 20 := by omega
    have y1 : IntKind.i64.wrap (k : Int) = (k : Int) := by rw [IntKind.wrap_i64]; omega
    have y2 : IntKind.i64.wrap (kk : Int) = (kk : Int) := by rw [IntKind.wrap_i64]; omega
    have cB1 := cB (by omega)
    have hkd : (kk : Int) < (nn : Int) := by omega
    have hk0 : (0 : Int) ≤ (kk : Int) := by omega
    rw [hnn] at hF0
    have hl0 := hF0.len
    have HL := Lib.hid (And.intro hl0 (And.intro hnn hkn))
    clear cB hU hln hix hkk hl0 hF0 hkn
    go_enter Try.func6, Try.ntmps6
    go_wp2_with fail
    refine ck.mono ?_
    rintro e w0 ⟨rfl, q0⟩
    go_wp2_with fail
    refine (cB1 _ q0).mono ?_
    rintro e w1 ⟨P, X, rb, wv, tv, fv, rfl, hPd, hM, hDk, hRb, q1⟩
    have c1 := fun w' (q : B w1 w') fl hF => srun_any _ hPd w' (hM.keepB q) (seat_fs hl20) fl [⟨n9, r9, c9, 77⟩, ⟨n9, r9, c9, v⟩] hF (fun f hf => by simp only [List.mem_cons, List.not_mem_nil, or_false] at hf; rcases hf with rfl | rfl <;> (unfold I64; simp only; omega)) (by simp) (.slice none 0 0) [] (isOps_nil _) opsI_nil
    have c2 := fun w' (q : B w1 w') => srun_any _ hPd w' (hM.keepB q) (seat_fs hl20) (.slice none 0 0) [] (isFls_nil _) flsI_nil (by simp) (.slice none 0 0) [] (isOps_nil _) opsI_nil
    have c3 := fun w' (q : B w1 w') fl hF => srun_any _ hPd w' (hM.keepB q) (seat_fs hl20) fl [⟨nameNone, 0, 0, -1⟩] hF (fun f hf => by simp only [List.mem_cons, List.not_mem_nil, or_false] at hf; rcases hf with rfl; (unfold I64; simp only; omega)) (by simp) (.slice none 0 0) [] (isOps_nil _) opsI_nil
    have cC := fun w' (q : B w1 w') => r8count_any wv tv fv _ w' (hDk.keepB q) hwb (by show 2 ≤ 100; omega)
    have cA := fun w' (q : B w1 w') => r8at_any wv tv fv _ (kk : Int) (by unfold I64; omega) w' (hDk.keepB q) hwb
    have eW : (seatD a b c d ll).ws = wares7 a b c d := rfl
    rw [eW, hcI] at cC
    rw [eW, hat] at cA
    simp only [wellV, Option.isSome_some] at cA
    obtain ⟨gw, cw, gt, ct, oB, _⟩ := hRb
    obtain ⟨ao, ac, bo, bc, co, cc, rfl, rfl, rfl⟩ := hDk.forms
    have k0 := obj_cell oB 0
    have k1 := obj_cell oB 1
    have k2 := obj_cell oB 2
    have HP := Lib.hid (And.intro (q0.trans q1) oB)
    have HS := Lib.hid (And.intro two (And.intro one non))
    generalize P.b = pb at *
    generalize seatD a b c d ll = D9 at *
    generalize D9.ws.length = n1 at *
    generalize D9.ts.length = n2 at *
    generalize D9.fs.length = n3 at *
    have HF := Lib.hid hv0
    clear hM cB1 q0 q1 hDk oB hPd hR hwb hA hat eW two one non hv0 hcI
    go_wp2_with fail
    refine wp_region_noPanic ?_
    refine wp_region_fork (S := fun w' => w'.cell? ⟨rb, 0, none⟩ = some (.slice ao n1 ac) ∧ w'.cell? ⟨rb, 1, none⟩ = some (.slice bo n2 bc) ∧ w'.cell? ⟨rb, 2, none⟩ = some (.slice co n3 cc) ∧ B w1 w') 17 (.step 0 3 (.step 1 3 (.step 2 3 (.step 3 0 (.step 4 3 (.step 5 3 (.step 6 3 (.step 7 3 (.step 8 3 (.step 9 0 (.fork 10 (.step 11 3 (.fork 12 (.step 13 3 (.step 14 3 (.step 15 3 (.step 16 2 (.step 17 4 (.step 18 3 (.done))))))) 16 (.step 12 2 (.step 13 3 (.step 14 3 (.step 15 3 (.step 17 4 (.step 18 3 (.done))))))))) 16 (.step 10 2 (.step 11 3 (.step 12 2 (.step 13 3 (.step 14 3 (.step 15 3 (.step 17 4 (.step 18 3 (.done)))))))))))))))))))) [0, 1, 2, 4, 0, 16, 0, 64, 128, 256, 512, 1056, 3080, 4096, 8192, 8192, 0, 98303, 262143] [0, 1, 2, 4, 0, 16, 0, 64, 128, 256, 512, 1056, 2056, 4096, 8192, 8192, 0, 81920, 32768] [0, 0, 0, 454664, 0, 0, 0, 0, 0, 458240, 0, 0, 0, 0, 0, 0, 0, 0, 0] (by kernel_rfl) (by kernel_rfl) (fun _ _ _ _ _ h => h) ?_ (fun hH => ?_)
    · exact ⟨(B.refl w1).drew.keep k0, (B.refl w1).drew.keep k1, (B.refl w1).drew.keep k2, (B.refl w1).drew⟩
    refine wpSeqF_free (d := 46) (v := ?_) rfl rfl (by kernel_rfl) (fun w => ?_) ?_
    rotate_left
    · go_simp <;> with_reducible rfl
    try dsimp only [List.set_cons_zero, List.set_cons_succ]
    refine wpSeqF_free (d := 47) (v := ?_) rfl rfl (by kernel_rfl) (fun w => ?_) ?_
    rotate_left
    · go_simp <;> with_reducible rfl
    try dsimp only [List.set_cons_zero, List.set_cons_succ]
    refine wpSeqF_free (d := 48) (v := ?_) rfl rfl (by kernel_rfl) (fun w => ?_) ?_
    rotate_left
    · go_simp <;> with_reducible rfl
    try dsimp only [List.set_cons_zero, List.set_cons_succ]
    refine wpSeqF_take (d := 49) (v := ?_) rfl rfl (by kernel_rfl) (fun w hS => ?_) ?_
    rotate_left
    · go_simp <;> with_reducible rfl
    try dsimp only [List.set_cons_zero, List.set_cons_succ]
    refine wpSeqF_free (d := 50) (v := ?_) rfl rfl (by kernel_rfl) (fun w => ?_) ?_
    rotate_left
    · go_simp <;> with_reducible rfl
    try dsimp only [List.set_cons_zero, List.set_cons_succ]
    refine wpSeqF_free (d := 51) (v := ?_) rfl rfl (by kernel_rfl) (fun w => ?_) ?_
    rotate_left
    · go_simp <;> with_reducible rfl
    try dsimp only [List.set_cons_zero, List.set_cons_succ]
    refine wpSeqF_free (d := 52) (v := ?_) rfl rfl (by kernel_rfl) (fun w => ?_) ?_
    rotate_left
    · go_simp <;> with_reducible rfl
    try dsimp only [List.set_cons_zero, List.set_cons_succ]
    refine wpSeqF_free (d := 53) (v := ?_) rfl rfl (by kernel_rfl) (fun w => ?_) ?_
    rotate_left
    · go_simp <;> with_reducible rfl
    try dsimp only [List.set_cons_zero, List.set_cons_succ]
    refine wpSeqF_free (d := 54) (v := ?_) rfl rfl (by kernel_rfl) (fun w => ?_) ?_
    rotate_left
    · go_simp <;> with_reducible rfl
    try dsimp only [List.set_cons_zero, List.set_cons_succ]
    refine wpSeqF_take (d := 55) (v := ?_) rfl rfl (by kernel_rfl) (fun w hS => ?_) ?_
    rotate_left
    · go_simp <;> with_reducible rfl
    try dsimp only [List.set_cons_zero, List.set_cons_succ]
    refine wpSeqF_fork rfl rfl (by kernel_rfl) (by kernel_rfl) (fun K hK => ?_) (fun K hK => ?_)
    · go_simp
      (with_reducible refine (cC _ hH.2.2.2).mono ?_)
      rintro e w2 ⟨rfl, hq⟩
      refine hK.out _ _ ?_ (fun hH => ?_)
      · exact ⟨hq.keep hH.1, hq.keep hH.2.1, hq.keep hH.2.2.1, hH.2.2.2.trans hq⟩
      clear hK
      refine wpSeqF_free (d := 57) (v := ?_) rfl rfl (by kernel_rfl) (fun w => ?_) ?_
      rotate_left
      · go_simp <;> with_reducible rfl
      try dsimp only [List.set_cons_zero, List.set_cons_succ]
      refine wpSeqF_fork rfl rfl (by kernel_rfl) (by kernel_rfl) (fun K hK => ?_) (fun K hK => ?_)
      · go_simp
        (with_reducible refine (cA _ hH.2.2.2).mono ?_)
        rintro e w3 ⟨rfl, hq⟩
        refine hK.out _ _ ?_ (fun hH => ?_)
        · exact ⟨hq.keep hH.1, hq.keep hH.2.1, hq.keep hH.2.2.1, hH.2.2.2.trans hq⟩
        clear hK
        refine wpSeqF_free (d := 45) (v := ?_) rfl rfl (by kernel_rfl) (fun w => ?_) ?_
        rotate_left
        · go_simp <;> with_reducible rfl
        try dsimp only [List.set_cons_zero, List.set_cons_succ]
        refine wpSeqF_free (d := 59) (v := ?_) rfl rfl (by kernel_rfl) (fun w => ?_) ?_
        rotate_left
        · go_simp <;> with_reducible rfl
        try dsimp only [List.set_cons_zero, List.set_cons_succ]
        refine wpSeqF_free (d := 60) (v := ?_) rfl rfl (by kernel_rfl) (fun w => ?_) ?_
        rotate_left
        · go_simp <;> with_reducible rfl
        try dsimp only [List.set_cons_zero, List.set_cons_succ]
        refine wpSeqF_call rfl (by kernel_rfl) (fun K hK => ?_)
        go_simp
        have oD : ((w3).alloc (.cells #[.string ⟨#[]⟩, .int .i64 0, .int .i64 0] 50)).heap[(w3).heap.size]? = some (.cells #[.string ⟨#[]⟩, .int .i64 0, .int .i64 0] 50 (0, 0)) := obj_new (w3) (.cells #[.string ⟨#[]⟩, .int .i64 0, .int .i64 0] 50)
        have qD : B (w3) ((w3).alloc (.cells #[.string ⟨#[]⟩, .int .i64 0, .int .i64 0] 50)) := (B.refl (w3)).alloc _ _
        have hkD : w1.heap.size ≤ (w3).heap.size := hH.2.2.2.below.size
        generalize (w3).alloc (.cells #[.string ⟨#[]⟩, .int .i64 0, .int .i64 0] 50) = wa at *
        obtain ⟨D, hD⟩ : ∃ D, (w3).heap.size = D := ⟨_, rfl⟩
        replace hkD : w1.heap.size ≤ D := by rw [← hD]; exact hkD
        rw [hD] at oD ⊢
        clear hD
        refine hK.out _ _ ?_ (fun hH => ?_)
        · exact ⟨qD.keep hH.1, qD.keep hH.2.1, qD.keep hH.2.2.1, hH.2.2.2.trans qD⟩
        clear hK
        refine wpSeqF_gate rfl (by kernel_rfl) (fun K hK => ?_)
        have y0 := obj_cell oD 0
        have y1 := obj_cell oD 1
        have y2 := obj_cell oD 2
        have z0 := obj_free oD 0
        have z1 := obj_free oD 1
        have z2 := obj_free oD 2
        go_simp
        refine hK.out _ _ ?_
        clear hK
        refine wpSeqF_free (d := 19) (v := ?_) rfl rfl (by kernel_rfl) (fun w => ?_) ?_
        rotate_left
        · go_simp <;> with_reducible rfl
        try dsimp only [List.set_cons_zero, List.set_cons_succ]
        refine wpSeqF_done ?_
        refine NoPanic.normal ?_
        have oD2 := obj_three oD (.string n9) (.int .i64 r9) (.int .i64 c9)
        have b2 := b_three hH.2.2.2 hkD (.string n9) (.int .i64 r9) (.int .i64 c9)
        clear oD hkD y0 y1 y2 z0 z1 z2 hH k0 k1 k2
        generalize ((wa.setCell ⟨D, 0, none⟩ (.string n9)).setCell ⟨D, 1, none⟩ (.int .i64 r9)).setCell ⟨D, 2, none⟩ (.int .i64 c9) = W1 at *
        have x0 := obj_cell oD2 0
        have x1 := obj_cell oD2 1
        have x2 := obj_cell oD2 2
        have HB := Lib.hid b2
        clear oD2 b2 cA
        go_wp2_with fail
        have qF : B w1 (W1.alloc (.cells #[.string n9, .int .i64 r9, .int .i64 c9, .int .i64 77, .string n9, .int .i64 r9, .int .i64 c9, .int .i64 v] 66)) := HB.out.alloc _ _
        have cc := c1 _ qF _ (fls_lit W1 [⟨n9, r9, c9, 77⟩, ⟨n9, r9, c9, v⟩] (by simp))
        refine Calls.mono cc ?_
        rintro e w4 hR
        have hr2 := HS.out.1
        clear cc c1 x0 x1 x2
        cases hin : inB v 0 21000000 with
        | false =>
          rw [hin] at hr2
          simp only [Bool.false_eq_true, if_false] at hr2
          obtain ⟨rfl, q4⟩ := hR.erd hr2
          have HZ := Lib.hid (HP.out.1.trans (qF.trans q4))
          have hin' : v < 0 ∨ 21000000 < v := by
            have h := hin
            unfold inB at h
            simp at h
            omega
          clear hR hr2 q4 qF hin
          by_cases hneg : v < 0
          · have f1 : decide (v < 0) = true := decide_eq_true hneg
            clear hneg hin'
            go_wp2
            try simp only [Exit.inBlock, Exit.then]
            go_ret
            exact ⟨rfl, HZ.out⟩
          · have f1 : decide (v < 0) = false := decide_eq_false hneg
            have f2 : decide (21000000 < v) = true := decide_eq_true (by omega)
            clear hneg hin'
            go_wp2
            try simp only [Exit.inBlock, Exit.then]
            go_ret
            exact ⟨rfl, HZ.out⟩
        | true =>
          rw [hin] at hr2
          simp only [if_true] at hr2
          have hin' : 0 ≤ v ∧ v ≤ 21000000 := by
            have h := hin
            unfold inB at h
            simp at h
            exact h
          have f1 : decide (v < 0) = false := decide_eq_false (by omega)
          have f2 : decide (21000000 < v) = false := decide_eq_false (by omega)
          obtain ⟨g1, rfl, r1, q4⟩ := hR.okd hr2
          rw [HL.out.2.1] at r1 ⊢
          have q14 := qF.trans q4
          clear hR hr2 q4 qF hin hin'
          go_wp2_with fail
          refine Calls.mono (c2 _ q14) ?_
          rintro e w5 hR
          obtain ⟨g2, rfl, r2, q5⟩ := hR.okd HS.out.2.1
          rw [HL.out.2.1] at r2 ⊢
          have q15 := q14.trans q5
          have r15 := r1.keep q5
          have oB5 := q15.obj HP.out.2
          have k0 := obj_cell oB5 0
          have k1 := obj_cell oB5 1
          have k2 := obj_cell oB5 2
          clear hR r1 q5 q14 c2 oB5
          go_wp2_with fail
          refine (cC _ q15).mono ?_
          rintro e w6 ⟨rfl, q6⟩
          have r16 := r15.keep q6
          have r26 := r2.keep q6
          obtain ⟨u0, u1, yv, u3⟩ := r16.at_ HL.out.2.2
          have ek : (v0.set kk v).getD kk 0 = v := getD_set_self (by rw [HL.out.1]; exact HL.out.2.2) v
          rw [ek] at yv
          have f3 : decide ((nn : Int) ≤ (kk : Int)) = false := decide_eq_false (by omega)
          have f4 : decide (nn ≤ kk) = false := decide_eq_false (by omega)
          have HQ := Lib.hid (And.intro (q15.trans q6) (And.intro r16 r26))
          clear u0 u1 u3 ek r15 r2 r16 r26 q15 q6 k0 k1 k2 cC
          go_wp2_with fail
          go_loopw [25] (fun iv wr => ∃ j : Nat, j ≤ nn ∧ iv = .int .i64 j ∧ B w6 wr) (fun iv _ => nn + 1 - (intOf iv).toNat)
          case atStart => exact ⟨0, Nat.zero_le _, rfl, by first | exact B.refl _ | exact (B.refl _).drewN _⟩
          case round =>
            obtain ⟨j, hj, rfl, qr⟩ := hrel
            obtain ⟨wl, rfl⟩ : ∃ wl : World, wl = wr := ⟨_, rfl⟩
            by_cases hl : j < nn
            · have hlB : decide ((j : Int) < (nn : Int)) = true := decide_eq_true (by omega)
              have hlN : decide (j < nn) = true := decide_eq_true hl
              have hlI : (j : Int) < (nn : Int) := by omega
              have hi0 : (0 : Int) ≤ (j : Int) := by omega
              have wk1 : IntKind.i64.wrap ((j : Int) + 1) = (j : Int) + 1 := by rw [IntKind.wrap_i64]; omega
              have HX := Lib.hid (And.intro hl qr)
              by_cases hjk : j = kk
              · have e1 : ((j : Int) != (kk : Int)) = false := by simp [hjk]
                have e2 : (j != kk) = false := by simp [hjk]
                have e3 : ((j : Int) == (kk : Int)) = true := by simp [hjk]
                have e4 : (j == kk) = true := by simp [hjk]
                clear qr hl hj hjk yv
                go_wp2_with fail
                go_quiet (fail)
                go_wp2
                go_roundw
                case rel => exact ⟨j + 1, by have := HX.out.1; omega, by go_num, HX.out.2.drewN _⟩
                case measure => have := HX.out.1; simp [intOf]; omega
              · have e1 : ((j : Int) != (kk : Int)) = true := by simp; omega
                have e2 : (j != kk) = true := by simp [hjk]
                have e3 : ((j : Int) == (kk : Int)) = false := by simp; omega
                have e4 : (j == kk) = false := by simp [hjk]
                obtain ⟨_, _, a1, _⟩ := (HQ.out.2.1.keep qr).at_ hl
                obtain ⟨_, _, a2, _⟩ := (HQ.out.2.2.keep qr).at_ hl
                rw [getD_set_ne (fun e => hjk e.symm)] at a1
                generalize v0.getD j 0 = z at a1 a2
                clear qr hl hj hjk yv
                go_wp2_with fail
                go_quiet (fail)
                go_wp2
                go_roundw
                case rel => exact ⟨j + 1, by have := HX.out.1; omega, by go_num, HX.out.2.drewN _⟩
                case measure => have := HX.out.1; simp [intOf]; omega
            · have hlB : decide ((j : Int) < (nn : Int)) = false := decide_eq_false (by omega)
              have hlN : decide (j < nn) = false := decide_eq_false hl
              have HX := Lib.hid (HQ.out.1.trans qr)
              clear qr hl hj yv
              go_wp2_with fail
              have cc := c3 _ (HX.out.alloc #[.string ⟨#[110, 111, 110, 101]⟩, .int .i64 0, .int .i64 0, .int .i64 (-1)] 66) _ (fls_lit wl [⟨nameNone, 0, 0, -1⟩] (by simp))
              refine Calls.mono cc ?_
              rintro e w7 hR
              obtain ⟨rfl, q7⟩ := hR.erd HS.out.2.2
              have HZ := Lib.hid (HP.out.1.trans ((HX.out.alloc #[.string ⟨#[110, 111, 110, 101]⟩, .int .i64 0, .int .i64 0, .int .i64 (-1)] 66).trans q7))
              clear hR cc c3 q7
              go_wp2
              try simp only [Exit.inBlock, Exit.then]
              go_ret
              exact ⟨rfl, HZ.out⟩
      · go_simp
        have oD : ((w2).alloc (.cells #[.string ⟨#[]⟩, .int .i64 0, .int .i64 0] 50)).heap[(w2).heap.size]? = some (.cells #[.string ⟨#[]⟩, .int .i64 0, .int .i64 0] 50 (0, 0)) := obj_new (w2) (.cells #[.string ⟨#[]⟩, .int .i64 0, .int .i64 0] 50)
        have qD : B (w2) ((w2).alloc (.cells #[.string ⟨#[]⟩, .int .i64 0, .int .i64 0] 50)) := (B.refl (w2)).alloc _ _
        have hkD : w1.heap.size ≤ (w2).heap.size := hH.2.2.2.below.size
        generalize (w2).alloc (.cells #[.string ⟨#[]⟩, .int .i64 0, .int .i64 0] 50) = wa at *
        obtain ⟨D, hD⟩ : ∃ D, (w2).heap.size = D := ⟨_, rfl⟩
        replace hkD : w1.heap.size ≤ D := by rw [← hD]; exact hkD
        rw [hD] at oD ⊢
        clear hD
        refine hK.out _ _ ?_ (fun hH => ?_)
        · exact ⟨qD.keep hH.1, qD.keep hH.2.1, qD.keep hH.2.2.1, hH.2.2.2.trans qD⟩
        clear hK
        refine wpSeqF_call rfl (by kernel_rfl) (fun K hK => ?_)
        go_simp
        (with_reducible refine (cA _ hH.2.2.2).mono ?_)
        rintro e w3 ⟨rfl, hq⟩
        replace oD := hq.obj oD
        refine hK.out _ _ ?_ (fun hH => ?_)
        · exact ⟨hq.keep hH.1, hq.keep hH.2.1, hq.keep hH.2.2.1, hH.2.2.2.trans hq⟩
        clear hK
        refine wpSeqF_free (d := 45) (v := ?_) rfl rfl (by kernel_rfl) (fun w => ?_) ?_
        rotate_left
        · go_simp <;> with_reducible rfl
        try dsimp only [List.set_cons_zero, List.set_cons_succ]
        refine wpSeqF_free (d := 59) (v := ?_) rfl rfl (by kernel_rfl) (fun w => ?_) ?_
        rotate_left
        · go_simp <;> with_reducible rfl
        try dsimp only [List.set_cons_zero, List.set_cons_succ]
        refine wpSeqF_free (d := 60) (v := ?_) rfl rfl (by kernel_rfl) (fun w => ?_) ?_
        rotate_left
        · go_simp <;> with_reducible rfl
        try dsimp only [List.set_cons_zero, List.set_cons_succ]
        refine wpSeqF_gate rfl (by kernel_rfl) (fun K hK => ?_)
        have y0 := obj_cell oD 0
        have y1 := obj_cell oD 1
        have y2 := obj_cell oD 2
        have z0 := obj_free oD 0
        have z1 := obj_free oD 1
        have z2 := obj_free oD 2
        go_simp
        refine hK.out _ _ ?_
        clear hK
        refine wpSeqF_free (d := 19) (v := ?_) rfl rfl (by kernel_rfl) (fun w => ?_) ?_
        rotate_left
        · go_simp <;> with_reducible rfl
        try dsimp only [List.set_cons_zero, List.set_cons_succ]
        refine wpSeqF_done ?_
        refine NoPanic.normal ?_
        have oD2 := obj_three oD (.string n9) (.int .i64 r9) (.int .i64 c9)
        have b2 := b_three hH.2.2.2 hkD (.string n9) (.int .i64 r9) (.int .i64 c9)
        clear oD hkD y0 y1 y2 z0 z1 z2 hH k0 k1 k2
        generalize ((w3.setCell ⟨D, 0, none⟩ (.string n9)).setCell ⟨D, 1, none⟩ (.int .i64 r9)).setCell ⟨D, 2, none⟩ (.int .i64 c9) = W1 at *
        have x0 := obj_cell oD2 0
        have x1 := obj_cell oD2 1
        have x2 := obj_cell oD2 2
        have HB := Lib.hid b2
        clear oD2 b2 cA
        go_wp2_with fail
        have qF : B w1 (W1.alloc (.cells #[.string n9, .int .i64 r9, .int .i64 c9, .int .i64 77, .string n9, .int .i64 r9, .int .i64 c9, .int .i64 v] 66)) := HB.out.alloc _ _
        have cc := c1 _ qF _ (fls_lit W1 [⟨n9, r9, c9, 77⟩, ⟨n9, r9, c9, v⟩] (by simp))
        refine Calls.mono cc ?_
        rintro e w4 hR
        have hr2 := HS.out.1
        clear cc c1 x0 x1 x2
        cases hin : inB v 0 21000000 with
        | false =>
          rw [hin] at hr2
          simp only [Bool.false_eq_true, if_false] at hr2
          obtain ⟨rfl, q4⟩ := hR.erd hr2
          have HZ := Lib.hid (HP.out.1.trans (qF.trans q4))
          have hin' : v < 0 ∨ 21000000 < v := by
            have h := hin
            unfold inB at h
            simp at h
            omega
          clear hR hr2 q4 qF hin
          by_cases hneg : v < 0
          · have f1 : decide (v < 0) = true := decide_eq_true hneg
            clear hneg hin'
            go_wp2
            try simp only [Exit.inBlock, Exit.then]
            go_ret
            exact ⟨rfl, HZ.out⟩
          · have f1 : decide (v < 0) = false := decide_eq_false hneg
            have f2 : decide (21000000 < v) = true := decide_eq_true (by omega)
            clear hneg hin'
            go_wp2
            try simp only [Exit.inBlock, Exit.then]
            go_ret
            exact ⟨rfl, HZ.out⟩
        | true =>
          rw [hin] at hr2
          simp only [if_true] at hr2
          have hin' : 0 ≤ v ∧ v ≤ 21000000 := by
            have h := hin
            unfold inB at h
            simp at h
            exact h
          have f1 : decide (v < 0) = false := decide_eq_false (by omega)
          have f2 : decide (21000000 < v) = false := decide_eq_false (by omega)
          obtain ⟨g1, rfl, r1, q4⟩ := hR.okd hr2
          rw [HL.out.2.1] at r1 ⊢
          have q14 := qF.trans q4
          clear hR hr2 q4 qF hin hin'
          go_wp2_with fail
          refine Calls.mono (c2 _ q14) ?_
          rintro e w5 hR
          obtain ⟨g2, rfl, r2, q5⟩ := hR.okd HS.out.2.1
          rw [HL.out.2.1] at r2 ⊢
          have q15 := q14.trans q5
          have r15 := r1.keep q5
          have oB5 := q15.obj HP.out.2
          have k0 := obj_cell oB5 0
          have k1 := obj_cell oB5 1
          have k2 := obj_cell oB5 2
          clear hR r1 q5 q14 c2 oB5
          go_wp2_with fail
          refine (cC _ q15).mono ?_
          rintro e w6 ⟨rfl, q6⟩
          have r16 := r15.keep q6
          have r26 := r2.keep q6
          obtain ⟨u0, u1, yv, u3⟩ := r16.at_ HL.out.2.2
          have ek : (v0.set kk v).getD kk 0 = v := getD_set_self (by rw [HL.out.1]; exact HL.out.2.2) v
          rw [ek] at yv
          have f3 : decide ((nn : Int) ≤ (kk : Int)) = false := decide_eq_false (by omega)
          have f4 : decide (nn ≤ kk) = false := decide_eq_false (by omega)
          have HQ := Lib.hid (And.intro (q15.trans q6) (And.intro r16 r26))
          clear u0 u1 u3 ek r15 r2 r16 r26 q15 q6 k0 k1 k2 cC
          go_wp2_with fail
          go_loopw [25] (fun iv wr => ∃ j : Nat, j ≤ nn ∧ iv = .int .i64 j ∧ B w6 wr) (fun iv _ => nn + 1 - (intOf iv).toNat)
          case atStart => exact ⟨0, Nat.zero_le _, rfl, by first | exact B.refl _ | exact (B.refl _).drewN _⟩
          case round =>
            obtain ⟨j, hj, rfl, qr⟩ := hrel
            obtain ⟨wl, rfl⟩ : ∃ wl : World, wl = wr := ⟨_, rfl⟩
            by_cases hl : j < nn
            · have hlB : decide ((j : Int) < (nn : Int)) = true := decide_eq_true (by omega)
              have hlN : decide (j < nn) = true := decide_eq_true hl
              have hlI : (j : Int) < (nn : Int) := by omega
              have hi0 : (0 : Int) ≤ (j : Int) := by omega
              have wk1 : IntKind.i64.wrap ((j : Int) + 1) = (j : Int) + 1 := by rw [IntKind.wrap_i64]; omega
              have HX := Lib.hid (And.intro hl qr)
              by_cases hjk : j = kk
              · have e1 : ((j : Int) != (kk : Int)) = false := by simp [hjk]
                have e2 : (j != kk) = false := by simp [hjk]
                have e3 : ((j : Int) == (kk : Int)) = true := by simp [hjk]
                have e4 : (j == kk) = true := by simp [hjk]
                clear qr hl hj hjk yv
                go_wp2_with fail
                go_quiet (fail)
                go_wp2
                go_roundw
                case rel => exact ⟨j + 1, by have := HX.out.1; omega, by go_num, HX.out.2.drewN _⟩
                case measure => have := HX.out.1; simp [intOf]; omega
              · have e1 : ((j : Int) != (kk : Int)) = true := by simp; omega
                have e2 : (j != kk) = true := by simp [hjk]
                have e3 : ((j : Int) == (kk : Int)) = false := by simp; omega
                have e4 : (j == kk) = false := by simp [hjk]
                obtain ⟨_, _, a1, _⟩ := (HQ.out.2.1.keep qr).at_ hl
                obtain ⟨_, _, a2, _⟩ := (HQ.out.2.2.keep qr).at_ hl
                rw [getD_set_ne (fun e => hjk e.symm)] at a1
                generalize v0.getD j 0 = z at a1 a2
                clear qr hl hj hjk yv
                go_wp2_with fail
                go_quiet (fail)
                go_wp2
                go_roundw
                case rel => exact ⟨j + 1, by have := HX.out.1; omega, by go_num, HX.out.2.drewN _⟩
                case measure => have := HX.out.1; simp [intOf]; omega
            · have hlB : decide ((j : Int) < (nn : Int)) = false := decide_eq_false (by omega)
              have hlN : decide (j < nn) = false := decide_eq_false hl
              have HX := Lib.hid (HQ.out.1.trans qr)
              clear qr hl hj yv
              go_wp2_with fail
              have cc := c3 _ (HX.out.alloc #[.string ⟨#[110, 111, 110, 101]⟩, .int .i64 0, .int .i64 0, .int .i64 (-1)] 66) _ (fls_lit wl [⟨nameNone, 0, 0, -1⟩] (by simp))
              refine Calls.mono cc ?_
              rintro e w7 hR
              obtain ⟨rfl, q7⟩ := hR.erd HS.out.2.2
              have HZ := Lib.hid (HP.out.1.trans ((HX.out.alloc #[.string ⟨#[110, 111, 110, 101]⟩, .int .i64 0, .int .i64 0, .int .i64 (-1)] 66).trans q7))
              clear hR cc c3 q7
              go_wp2
              try simp only [Exit.inBlock, Exit.then]
              go_ret
              exact ⟨rfl, HZ.out⟩
    · go_simp
      have oD : ((w1.alloc (.cells #[.string ⟨#[]⟩, .int .i64 0, .int .i64 0] 50)).drew).heap[(w1).heap.size]? = some (.cells #[.string ⟨#[]⟩, .int .i64 0, .int .i64 0] 50 (0, 0)) := obj_new (w1.drew) (.cells #[.string ⟨#[]⟩, .int .i64 0, .int .i64 0] 50)
      have qD : B (w1.drew) ((w1.alloc (.cells #[.string ⟨#[]⟩, .int .i64 0, .int .i64 0] 50)).drew) := (B.refl (w1.drew)).alloc _ _
      have hkD : w1.heap.size ≤ (w1).heap.size := hH.2.2.2.below.size
      generalize (w1.alloc (.cells #[.string ⟨#[]⟩, .int .i64 0, .int .i64 0] 50)).drew = wa at *
      obtain ⟨D, hD⟩ : ∃ D, (w1).heap.size = D := ⟨_, rfl⟩
      replace hkD : w1.heap.size ≤ D := by rw [← hD]; exact hkD
      rw [hD] at oD ⊢
      clear hD
      refine hK.out _ _ ?_ (fun hH => ?_)
      · exact ⟨qD.keep hH.1, qD.keep hH.2.1, qD.keep hH.2.2.1, hH.2.2.2.trans qD⟩
      clear hK
      refine wpSeqF_call rfl (by kernel_rfl) (fun K hK => ?_)
      go_simp
      (with_reducible refine (cC _ hH.2.2.2).mono ?_)
      rintro e w2 ⟨rfl, hq⟩
      replace oD := hq.obj oD
      refine hK.out _ _ ?_ (fun hH => ?_)
      · exact ⟨hq.keep hH.1, hq.keep hH.2.1, hq.keep hH.2.2.1, hH.2.2.2.trans hq⟩
      clear hK
      refine wpSeqF_free (d := 57) (v := ?_) rfl rfl (by kernel_rfl) (fun w => ?_) ?_
      rotate_left
      · go_simp <;> with_reducible rfl
      try dsimp only [List.set_cons_zero, List.set_cons_succ]
      refine wpSeqF_call rfl (by kernel_rfl) (fun K hK => ?_)
      go_simp
      (with_reducible refine (cA _ hH.2.2.2).mono ?_)
      rintro e w3 ⟨rfl, hq⟩
      replace oD := hq.obj oD
      refine hK.out _ _ ?_ (fun hH => ?_)
      · exact ⟨hq.keep hH.1, hq.keep hH.2.1, hq.keep hH.2.2.1, hH.2.2.2.trans hq⟩
      clear hK
      refine wpSeqF_free (d := 45) (v := ?_) rfl rfl (by kernel_rfl) (fun w => ?_) ?_
      rotate_left
      · go_simp <;> with_reducible rfl
      try dsimp only [List.set_cons_zero, List.set_cons_succ]
      refine wpSeqF_free (d := 59) (v := ?_) rfl rfl (by kernel_rfl) (fun w => ?_) ?_
      rotate_left
      · go_simp <;> with_reducible rfl
      try dsimp only [List.set_cons_zero, List.set_cons_succ]
      refine wpSeqF_free (d := 60) (v := ?_) rfl rfl (by kernel_rfl) (fun w => ?_) ?_
      rotate_left
      · go_simp <;> with_reducible rfl
      try dsimp only [List.set_cons_zero, List.set_cons_succ]
      refine wpSeqF_gate rfl (by kernel_rfl) (fun K hK => ?_)
      have y0 := obj_cell oD 0
      have y1 := obj_cell oD 1
      have y2 := obj_cell oD 2
      have z0 := obj_free oD 0
      have z1 := obj_free oD 1
      have z2 := obj_free oD 2
      go_simp
      refine hK.out _ _ ?_
      clear hK
      refine wpSeqF_free (d := 19) (v := ?_) rfl rfl (by kernel_rfl) (fun w => ?_) ?_
      rotate_left
      · go_simp <;> with_reducible rfl
      try dsimp only [List.set_cons_zero, List.set_cons_succ]
      refine wpSeqF_done ?_
      refine NoPanic.normal ?_
      have oD2 := obj_three oD (.string n9) (.int .i64 r9) (.int .i64 c9)
      have b2 := b_three hH.2.2.2 hkD (.string n9) (.int .i64 r9) (.int .i64 c9)
      clear oD hkD y0 y1 y2 z0 z1 z2 hH k0 k1 k2
      generalize ((w3.setCell ⟨D, 0, none⟩ (.string n9)).setCell ⟨D, 1, none⟩ (.int .i64 r9)).setCell ⟨D, 2, none⟩ (.int .i64 c9) = W1 at *
      have x0 := obj_cell oD2 0
      have x1 := obj_cell oD2 1
      have x2 := obj_cell oD2 2
      have HB := Lib.hid b2
      clear oD2 b2 cA
      go_wp2_with fail
      have qF : B w1 (W1.alloc (.cells #[.string n9, .int .i64 r9, .int .i64 c9, .int .i64 77, .string n9, .int .i64 r9, .int .i64 c9, .int .i64 v] 66)) := HB.out.alloc _ _
      have cc := c1 _ qF _ (fls_lit W1 [⟨n9, r9, c9, 77⟩, ⟨n9, r9, c9, v⟩] (by simp))
      refine Calls.mono cc ?_
      rintro e w4 hR
      have hr2 := HS.out.1
      clear cc c1 x0 x1 x2
      cases hin : inB v 0 21000000 with
      | false =>
        rw [hin] at hr2
        simp only [Bool.false_eq_true, if_false] at hr2
        obtain ⟨rfl, q4⟩ := hR.erd hr2
        have HZ := Lib.hid (HP.out.1.trans (qF.trans q4))
        have hin' : v < 0 ∨ 21000000 < v := by
          have h := hin
          unfold inB at h
          simp at h
          omega
        clear hR hr2 q4 qF hin
        by_cases hneg : v < 0
        · have f1 : decide (v < 0) = true := decide_eq_true hneg
          clear hneg hin'
          go_wp2
          try simp only [Exit.inBlock, Exit.then]
          go_ret
          exact ⟨rfl, HZ.out⟩
        · have f1 : decide (v < 0) = false := decide_eq_false hneg
          have f2 : decide (21000000 < v) = true := decide_eq_true (by omega)
          clear hneg hin'
          go_wp2
          try simp only [Exit.inBlock, Exit.then]
          go_ret
          exact ⟨rfl, HZ.out⟩
      | true =>
        rw [hin] at hr2
        simp only [if_true] at hr2
        have hin' : 0 ≤ v ∧ v ≤ 21000000 := by
          have h := hin
          unfold inB at h
          simp at h
          exact h
        have f1 : decide (v < 0) = false := decide_eq_false (by omega)
        have f2 : decide (21000000 < v) = false := decide_eq_false (by omega)
        obtain ⟨g1, rfl, r1, q4⟩ := hR.okd hr2
        rw [HL.out.2.1] at r1 ⊢
        have q14 := qF.trans q4
        clear hR hr2 q4 qF hin hin'
        go_wp2_with fail
        refine Calls.mono (c2 _ q14) ?_
        rintro e w5 hR
        obtain ⟨g2, rfl, r2, q5⟩ := hR.okd HS.out.2.1
        rw [HL.out.2.1] at r2 ⊢
        have q15 := q14.trans q5
        have r15 := r1.keep q5
        have oB5 := q15.obj HP.out.2
        have k0 := obj_cell oB5 0
        have k1 := obj_cell oB5 1
        have k2 := obj_cell oB5 2
        clear hR r1 q5 q14 c2 oB5
        go_wp2_with fail
        refine (cC _ q15).mono ?_
        rintro e w6 ⟨rfl, q6⟩
        have r16 := r15.keep q6
        have r26 := r2.keep q6
        obtain ⟨u0, u1, yv, u3⟩ := r16.at_ HL.out.2.2
        have ek : (v0.set kk v).getD kk 0 = v := getD_set_self (by rw [HL.out.1]; exact HL.out.2.2) v
        rw [ek] at yv
        have f3 : decide ((nn : Int) ≤ (kk : Int)) = false := decide_eq_false (by omega)
        have f4 : decide (nn ≤ kk) = false := decide_eq_false (by omega)
        have HQ := Lib.hid (And.intro (q15.trans q6) (And.intro r16 r26))
        clear u0 u1 u3 ek r15 r2 r16 r26 q15 q6 k0 k1 k2 cC
        go_wp2_with fail
        go_loopw [25] (fun iv wr => ∃ j : Nat, j ≤ nn ∧ iv = .int .i64 j ∧ B w6 wr) (fun iv _ => nn + 1 - (intOf iv).toNat)
        case atStart => exact ⟨0, Nat.zero_le _, rfl, by first | exact B.refl _ | exact (B.refl _).drewN _⟩
        case round =>
          obtain ⟨j, hj, rfl, qr⟩ := hrel
          obtain ⟨wl, rfl⟩ : ∃ wl : World, wl = wr := ⟨_, rfl⟩
          by_cases hl : j < nn
          · have hlB : decide ((j : Int) < (nn : Int)) = true := decide_eq_true (by omega)
            have hlN : decide (j < nn) = true := decide_eq_true hl
            have hlI : (j : Int) < (nn : Int) := by omega
            have hi0 : (0 : Int) ≤ (j : Int) := by omega
            have wk1 : IntKind.i64.wrap ((j : Int) + 1) = (j : Int) + 1 := by rw [IntKind.wrap_i64]; omega
            have HX := Lib.hid (And.intro hl qr)
            by_cases hjk : j = kk
            · have e1 : ((j : Int) != (kk : Int)) = false := by simp [hjk]
              have e2 : (j != kk) = false := by simp [hjk]
              have e3 : ((j : Int) == (kk : Int)) = true := by simp [hjk]
              have e4 : (j == kk) = true := by simp [hjk]
              clear qr hl hj hjk yv
              go_wp2_with fail
              go_quiet (fail)
              go_wp2
              go_roundw
              case rel => exact ⟨j + 1, by have := HX.out.1; omega, by go_num, HX.out.2.drewN _⟩
              case measure => have := HX.out.1; simp [intOf]; omega
            · have e1 : ((j : Int) != (kk : Int)) = true := by simp; omega
              have e2 : (j != kk) = true := by simp [hjk]
              have e3 : ((j : Int) == (kk : Int)) = false := by simp; omega
              have e4 : (j == kk) = false := by simp [hjk]
              obtain ⟨_, _, a1, _⟩ := (HQ.out.2.1.keep qr).at_ hl
              obtain ⟨_, _, a2, _⟩ := (HQ.out.2.2.keep qr).at_ hl
              rw [getD_set_ne (fun e => hjk e.symm)] at a1
              generalize v0.getD j 0 = z at a1 a2
              clear qr hl hj hjk yv
              go_wp2_with fail
              go_quiet (fail)
              go_wp2
              go_roundw
              case rel => exact ⟨j + 1, by have := HX.out.1; omega, by go_num, HX.out.2.drewN _⟩
              case measure => have := HX.out.1; simp [intOf]; omega
          · have hlB : decide ((j : Int) < (nn : Int)) = false := decide_eq_false (by omega)
            have hlN : decide (j < nn) = false := decide_eq_false hl
            have HX := Lib.hid (HQ.out.1.trans qr)
            clear qr hl hj yv
            go_wp2_with fail
            have cc := c3 _ (HX.out.alloc #[.string ⟨#[110, 111, 110, 101]⟩, .int .i64 0, .int .i64 0, .int .i64 (-1)] 66) _ (fls_lit wl [⟨nameNone, 0, 0, -1⟩] (by simp))
            refine Calls.mono cc ?_
            rintro e w7 hR
            obtain ⟨rfl, q7⟩ := hR.erd HS.out.2.2
            have HZ := Lib.hid (HP.out.1.trans ((HX.out.alloc #[.string ⟨#[110, 111, 110, 101]⟩, .int .i64 0, .int .i64 0, .int .i64 (-1)] 66).trans q7))
            clear hR cc c3 q7
            go_wp2
            try simp only [Exit.inBlock, Exit.then]
            go_ret
            exact ⟨rfl, HZ.out⟩
  · have hlB : decide (20 < (ln : Int)) = true := decide_eq_true (by omega)
    have hlN : decide (20 < ln) = true := decide_eq_true (by omega)
    clear cB hU hln
    go_enter Try.func6, Try.ntmps6
    go_wp2_with fail
    refine ck.mono ?_
    rintro e w0 ⟨rfl, q0⟩
    have HQ := Lib.hid q0
    clear ck q0
    go_wp2
    go_ret
    exact ⟨rfl, HQ.out⟩
theorem fills14_ok (a b c d : Int) (lv : Value) (ll : List Nat) (v k : Int) (h1 : (Lit.int .u8 a).wf = true) (h2 : (Lit.int .u8 b).wf = true) (h3 : (Lit.int .u8 c).wf = true) (h4 : (Lit.int .u8 d).wf = true) (h5 : (Lit.int .i64 v).wf = true) (h6 : (Lit.int .u8 k).wf = true) (w : World) (hU : IsU32s w lv ll) :
    Calls Try.prog 6 #[.int .u8 a, .int .u8 b, .int .u8 c, .int .u8 d, lv, .int .i64 v, .int .u8 k] w fun e w' => e = .returned (.bool true) ∧ B w w' := by
  obtain ⟨n1, n2⟩ := u8_wf h6
  have hv : I64 v := i64_wf h5
  have h := fills14_any a b c d lv ll v k.toNat (u8_wf h1) (u8_wf h2) (u8_wf h3) (u8_wf h4) hv (by omega) w hU
  rw [show ((k.toNat : Nat) : Int) = k by omega] at h
  exact h
end Go.Proofs.Ytnmcgleanpdlmaa
