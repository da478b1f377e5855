/-
  ProtoRights.
-/
import Derived.Lib.MinMax
import Derived.Deep.DeepCutAuto
import Derived.Test.YtnmcgleanpdlmaaDoorChecked
import Derived.ProofKit
import Derived.OpenShut
import Derived.Deep.Slices
import Derived.ChangeArms
import Derived.Test.YtnmcgleanpdlmaaDoorY1
import Derived.Test.YtnmcgleanpdlmaaDoorY2
import Derived.Test.YtnmcgleanpdlmaaDoorY3
import Derived.Test.YtnmcgleanpdlmaaDoorY4
import Derived.Test.YtnmcgleanpdlmaaDoorY5
import Derived.Test.YtnmcgleanpdlmaaDoorY6
import Derived.Test.YtnmcgleanpdlmaaDoorY7
import Derived.Test.YtnmcgleanpdlmaaDoorY8
import Derived.Test.YtnmcgleanpdlmaaDoorY9
import Derived.Test.YtnmcgleanpdlmaaDoorY10
import Derived.Test.YtnmcgleanpdlmaaDoorY11
import Derived.Test.YtnmcgleanpdlmaaDoorY12
import Derived.Test.YtnmcgleanpdlmaaDoorY13
import Derived.Test.YtnmcgleanpdlmaaDoorY14
import Derived.Test.YtnmcgleanpdlmaaDoorY15
import Derived.Test.YtnmcgleanpdlmaaDoorY16
import Derived.Test.YtnmcgleanpdlmaaDoorY17
import Derived.Test.YtnmcgleanpdlmaaDoorY18
namespace Go.Proofs.YtnmcgleanpdlmaaDoor
open Go.RowKit
set_option linter.unusedVariables false
theorem wellsN_set : ∀ (SS : List Sp) (k : Nat) (s' : Sp), wellsN (SS.set k s') ≤ wellsN SS + s'.w.length
  | [], k, s' => by simp [wellsN]
  | s :: SS, 0, s' => by show s'.w.length + wellsN SS ≤ (s.w.length + wellsN SS) + s'.w.length; omega
  | s :: SS, k + 1, s' => by
    have := wellsN_set SS k s'
    show s.w.length + wellsN (SS.set k s') ≤ (s.w.length + wellsN SS) + s'.w.length
    omega
theorem spsI_set {SS : List Sp} (h : SpsI SS) {k : Nat} {s' : Sp} (h' : WpsI s'.w) : SpsI (SS.set k s') := fun s hs => by
  rcases List.mem_or_eq_of_mem_set hs with hs | rfl
  · exact h s hs
  · exact h'
theorem wpsI_of {l : List Wp} (h : wellsOk l = true) : WpsI l := fun p hp => by
  unfold wellsOk at h
  rw [List.all_eq_true] at h
  have h1 := h p hp
  have hc : nameS p.n = true ∧ 0 ≤ p.r ∧ p.r < 8 ∧ 0 ≤ p.c ∧ p.c < 12 := by
    unfold Wp.t wellT at h1
    split at h1
    · assumption
    · cases h1
  unfold I64
  omega
theorem spsI_of {SS : List Sp} (h : ∀ s ∈ SS, stepOk s = true) : SpsI SS := fun s hs => by
  have := h s hs
  unfold stepOk at this
  rw [Bool.and_eq_true] at this
  exact wpsI_of this.1
theorem piece_w3 (d : Dk) (p : Pz) : (pieceS d p).w.length ≤ 3 := by
  have h3 : (pieceW d.ws p).length = 3 := rfl
  unfold pieceS
  split
  · show 0 ≤ 3; omega
  · split
    · show 0 ≤ 3; omega
    · split
      · show (pieceW d.ws p).length ≤ 3; omega
      · split
        · show (pieceW d.ws p).length ≤ 3; omega
        · split
          · show ((pieceW d.ws p).take 1).length ≤ 3; rw [List.length_take]; omega
          · split
            · show (pieceW d.ws p).length ≤ 3; omega
            · show ((pieceW d.ws p).take 2).length ≤ 3; rw [List.length_take]; omega
theorem seat_w3 (d : Dk) (ps : List Pz) : ∀ s ∈ seatSteps d ps, s.w.length ≤ 3 := fun s hs => by
  unfold seatSteps at hs
  rw [List.mem_cons] at hs
  rcases hs with rfl | hs
  · show 0 ≤ 3; omega
  · obtain ⟨p, _, rfl⟩ := List.mem_map.1 hs
    exact piece_w3 d p
theorem set_few {SS : List Sp} (h : ∀ s ∈ SS, s.w.length ≤ 3) (hl : SS.length ≤ 16) (k : Nat) {s' : Sp} {m : Nat} (h' : s'.w.length ≤ m) : wellsN (SS.set k s') ≤ 48 + m := by
  have h1 := wellsN_set SS k s'
  have h2 := wellsN_le SS h
  omega
theorem flatWp_one' (l : List Wp) : ∀ u ∈ flatWp l, u.oneCell' = true := by
  intro u hu
  unfold flatWp at hu
  obtain ⟨p, _, hp⟩ := List.mem_flatMap.1 hu
  simp only [List.mem_cons, List.not_mem_nil, or_false] at hp
  rcases hp with rfl | rfl | rfl <;> rfl
theorem wps_rowIn {w : World} {v : Value} {L : List Wp} (h : IsWps w v L) : RowIn w v L.length (flatWp L) := by
  rcases h with ⟨rfl, rfl⟩ | ⟨a, cap, rfl, h2, h3, h4⟩
  · exact .inl ⟨rfl, rfl, rfl⟩
  · refine .inr ⟨a, cap, rfl, fun j u hj => ?_⟩
    have hlt : j < (flatWp L).length := (List.getElem?_eq_some_iff.1 hj).1
    rw [flatWp_len] at hlt
    obtain ⟨i, r, rfl, hr⟩ : ∃ i r, j = i * 3 + r ∧ r < 3 := ⟨j / 3, j % 3, by omega, by omega⟩
    have hg := List.getElem?_eq_getElem (show i < L.length by omega)
    have hf := flatWp_get L i _ hg
    have hW := h4 i _ hg
    obtain rfl | rfl | rfl : r = 0 ∨ r = 1 ∨ r = 2 := by omega
    · rw [Nat.add_zero] at hj ⊢
      rw [hf.1] at hj
      cases hj
      exact hW.n
    · rw [hf.2.1] at hj
      cases hj
      rw [addA a (by omega)]
      exact hW.r
    · rw [hf.2.2] at hj
      cases hj
      rw [addA a (by omega)]
      exact hW.c
theorem r8stI : (Tryd.prog.info? 27).map (fun i => (i.zero, i.size, i.bytes)) = some (some (.agg #[.int .i64 0, .string .empty, .slice none 0 0, .int .i64 0, .int .i64 0]), 5, 64) := by kernel_rfl
set_option maxRecDepth 100000 in
set_option maxHeartbeats 1000000 in
theorem rights12_any (rv : Value) (RL : List Sp) (a b c d : Int) (lv : Value) (ps : List Pz) (at_ bend : Nat) (vv : Int) (hat : at_ < 256) (hbend : bend < 256) (hvv : I64 vv) (ha : 0 ≤ a ∧ a ≤ 255) (hb : 0 ≤ b ∧ b ≤ 255) (hc : 0 ≤ c ∧ c ≤ 255) (hd : 0 ≤ d ∧ d ≤ 255) (w : World) (hR : IsSps w rv RL) (hRo : ∀ s ∈ RL, s.ok) (hP : IsPzs w lv ps)
    (htab : Lib.TabIs Tryd.prog w "internal/strconv.uint64pow10" .u64 Lib.pow10Tab) :
    Calls Tryd.prog 3 #[rv, .int .u8 a, .int .u8 b, .int .u8 c, .int .u8 d, lv, .int .u8 (at_ : Int), .int .u8 (bend : Int), .int .i64 vv] w fun e w' => e = .returned (.bool true) ∧ B w w' := by
  have ck := known12_any w htab
  obtain ⟨po, pc, rfl⟩ := hP.form
  obtain ⟨ro, rc, rfl⟩ := hR.form
  by_cases hbig : 20 < RL.length ∨ 15 < ps.length
  · have hor : (decide ((20 : Int) < (RL.length : Int)) = true ∧ decide (20 < RL.length) = true) ∨ (decide ((20 : Int) < (RL.length : Int)) = false ∧ decide (20 < RL.length) = false ∧ decide ((15 : Int) < (ps.length : Int)) = true ∧ decide (15 < ps.length) = true) := by
      by_cases h1 : 20 < RL.length
      · exact .inl ⟨decide_eq_true (by omega), decide_eq_true h1⟩
      · exact .inr ⟨decide_eq_false (by omega), decide_eq_false h1, decide_eq_true (by omega), decide_eq_true (by omega)⟩
    clear hbig hR hP
    rcases hor with ⟨g1, g2⟩ | ⟨g1, g2, g3, g4⟩
    all_goals
      go_enter Tryd.func3, Tryd.ntmps3
      go_wp2_with fail
      refine ck.mono ?_
      rintro _ w1 ⟨rfl, q1⟩
      go_wp2
      go_ret
      exact ⟨rfl, q1⟩
  have g1 : decide ((20 : Int) < (RL.length : Int)) = false := decide_eq_false (by omega)
  have g2 : decide (20 < RL.length) = false := decide_eq_false (by omega)
  have g3 : decide ((15 : Int) < (ps.length : Int)) = false := decide_eq_false (by omega)
  have g4 : decide (15 < ps.length) = false := decide_eq_false (by omega)
  have hps15 : ps.length ≤ 15 := by omega
  have hrl20 : RL.length ≤ 20 := by omega
  have hwb := seat_wares ha hb hc hd
  have hnm : ∀ x ∈ wares7 a b c d, nameS x.n = true := fun x hx => by
    unfold wares7 at hx
    simp only [List.mem_cons, List.not_mem_nil, or_false] at hx
    rcases hx with rfl | rfl
    · exact nameS_plate
    · exact nameS_tube
  have hcnt : 0 < countW (wares7 a b c d) ∧ countW (wares7 a b c d) ≤ 192 := by
    obtain ⟨p1, p2, p3, p4⟩ := hwb _ (List.mem_cons_self ..)
    obtain ⟨t1, t2, t3, t4⟩ := hwb _ (List.mem_cons_of_mem _ (List.mem_cons_self ..))
    have m1 := mul_small (by omega) p2 (by omega) p4
    have m2 := mul_small (by omega) t2 (by omega) t4
    have m3 := Int.mul_le_mul p1 p3 (by omega) (by omega : (0 : Int) ≤ (a / 6 % 3 + 1))
    show 0 < _ * _ + (_ * _ + 0) ∧ _ * _ + (_ * _ + 0) ≤ 192
    omega
  have cD := fun w1 (q : B w w1) => deck_any a b c d _ [] (by simp) ha hb hc hd w1 (isU32s_nil w1)
  have cS := fun w1 (q : B w w1) wv tv fv (hD : IsDk w1 wv tv fv (seatD a b c d [])) => steps_any wv tv fv _ (seatD a b c d []) ps w1 hD (hP.keepB q) hwb (by show (wares7 a b c d).length ≤ 100; show 2 ≤ 100; omega) hcnt.1 (by have := hcnt.2; show countW (wares7 a b c d) ≤ 9600; omega) (by omega)
  have hsl : 1 ≤ (seatSteps (seatD a b c d []) ps).length ∧ (seatSteps (seatD a b c d []) ps).length ≤ 16 := by unfold seatSteps; simp; omega
  have HSS := Lib.hid (And.intro hsl (seat_steps_ok (d := seatD a b c d []) hwb hnm hcnt.1 (ps := ps) (by omega)))
  have HS3 := Lib.hid (seat_w3 (seatD a b c d []) ps)
  have HS00 := Lib.hid (show ∃ S0 : Sp, (seatSteps (seatD a b c d []) ps)[0]? = some S0 ∧ S0.w = [] from ⟨_, rfl, rfl⟩)
  clear hsl
  generalize seatSteps (seatD a b c d []) ps = SS at *
  generalize seatD a b c d [] = SD at *
  have HR := Lib.hid (And.intro hR hRo)
  obtain ⟨rl, hrl⟩ : ∃ rl, RL.length = rl := ⟨_, rfl⟩
  rw [hrl] at g1 g2 hrl20 ⊢
  have HRL := Lib.hid hrl
  have HT := Lib.hid htab
  clear hwb hnm hcnt hP hR hRo hbig htab hrl
  go_enter Tryd.func3, Tryd.ntmps3
  go_wp2_with fail
  refine ck.mono ?_
  rintro _ w1 ⟨rfl, q1⟩
  clear ck
  go_wp2_with fail
  go_loopw [19] (fun iv wr => ∃ i : Nat, i ≤ rl ∧ iv = .int .i64 i ∧ w1 = wr ∧ ∀ s ∈ RL.take i, s.w.length ≤ 10 ∧ s.n.size ≤ 30) (fun iv _ => rl + 1 - (intOf iv).toNat)
  case atStart => exact ⟨0, Nat.zero_le _, rfl, rfl, by simp⟩
  case round =>
    obtain ⟨i, hi, rfl, rfl, hsm⟩ := hrel
    by_cases hl : i < rl
    · have hlB : decide ((i : Int) < (rl : Int)) = true := decide_eq_true (by omega)
      have hlN : decide (i < rl) = true := decide_eq_true hl
      have hlI : (i : Int) < (rl : Int) := by omega
      have hi0 : (0 : Int) ≤ (i : Int) := by omega
      have wk1 : IntKind.i64.wrap ((i : Int) + 1) = (i : Int) + 1 := by rw [IntKind.wrap_i64]; omega
      obtain ⟨ad, cap, e1, _, _, hA⟩ := (HR.out.1.keepB q1).at_ (i := i) (by rw [HRL.out]; exact hl)
      obtain ⟨s, hs⟩ : ∃ s, RL[i]'(by rw [HRL.out]; exact hl) = s := ⟨_, rfl⟩
      rw [hs] at hA
      have hgs : RL[i]? = some s := by rw [List.getElem?_eq_getElem (by rw [HRL.out]; exact hl), hs]
      rw [HRL.out] at e1
      obtain ⟨rfl, rfl⟩ : ro = some ad ∧ rc = cap := by simpa using e1
      generalize hq9 : ad.add (i * 5) = q9 at hA
      obtain ⟨u, k2, kW⟩ := hA.ws
      have k1 := hA.n
      obtain ⟨uo, uc, rfl⟩ := kW.form
      obtain ⟨N, hN⟩ : ∃ N, s.n = N := ⟨_, rfl⟩
      obtain ⟨wl, hwl⟩ : ∃ wl, s.w.length = wl := ⟨_, rfl⟩
      rw [hN] at k1
      rw [hwl] at k2
      have htk : RL.take (i + 1) = RL.take i ++ [s] := by rw [List.take_add_one, hgs]; rfl
      have HK := Lib.hid (And.intro htk (And.intro hN (And.intro hwl (And.intro hsm hl))))
      clear htk hN hwl hsm hA kW hgs hs e1 hl hi
      by_cases hw10 : 10 < wl
      · have t1 : decide ((10 : Int) < (wl : Int)) = true := decide_eq_true (by omega)
        have t1' : decide (10 < wl) = true := decide_eq_true hw10
        go_wp2
        go_ret
        exact ⟨rfl, q1⟩
      have t1 : decide ((10 : Int) < (wl : Int)) = false := decide_eq_false (by omega)
      have t1' : decide (10 < wl) = false := decide_eq_false hw10
      by_cases hn30 : 30 < N.size
      · have t2 : decide ((30 : Int) < (N.size : Int)) = true := decide_eq_true (by omega)
        have t2' : decide (30 < N.size) = true := decide_eq_true hn30
        go_wp2
        go_ret
        exact ⟨rfl, q1⟩
      have t2 : decide ((30 : Int) < (N.size : Int)) = false := decide_eq_false (by omega)
      have t2' : decide (30 < N.size) = false := decide_eq_false hn30
      have HW := Lib.hid (And.intro hw10 hn30)
      go_wp2
      exact ⟨⟨i + 1, by have := HK.out.2.2.2.2; omega, by go_num, trivial, by
        intro t ht
        rw [HK.out.1] at ht
        rcases List.mem_append.1 ht with ht | ht
        · exact HK.out.2.2.2.1 t ht
        · rw [List.mem_singleton.1 ht, HK.out.2.1, HK.out.2.2.1]
          exact ⟨by have := HW.out.1; omega, by have := HW.out.2; omega⟩⟩, by have := HK.out.2.2.2.2; simp [intOf]; omega⟩
    · have hlB : decide ((i : Int) < (rl : Int)) = false := decide_eq_false (by omega)
      have hlN : decide (i < rl) = false := decide_eq_false hl
      obtain rfl : i = rl := by omega
      rw [List.take_of_length_le (by rw [HRL.out]; omega)] at hsm
      have HM := Lib.hid hsm
      clear hsm hi
      go_wp2_with fail
      refine (cD _ q1).mono ?_
      rintro _ w2 ⟨wv, tv, fv, rfl, hD, q2⟩
      have q12 := q1.trans q2
      have cS1 := cS _ q12 _ _ _ hD
      clear cD cS
      go_wp2_with fail
      refine cS1.mono ?_
      rintro _ w3 ⟨sv, rfl, hS, q3⟩
      have q13 := q12.trans q3
      clear cS1 hD q1 q2 q3 q12
      obtain ⟨us, hus1, hus2, hus3, hus4⟩ := hS.rowIn
      have hus5 := flatSp_len SS us hus1
      obtain ⟨i0, hi0, hz0, hz1, hz2⟩ := info_of r8stI
      obtain ⟨sn, hsn⟩ : ∃ sn, SS.length = sn := ⟨_, rfl⟩
      have hsb : 1 ≤ sn ∧ sn ≤ 16 := by have := HSS.out.1; omega
      have HY := Lib.hid (And.intro hus1 (And.intro hus4 (And.intro hS hsn)))
      obtain ⟨XS, hXS⟩ : ∃ XS, flatSp SS us = XS := ⟨_, rfl⟩
      rw [hsn] at hus2 hus5
      rw [hXS] at hus2 hus3 hus5
      have HX := Lib.hid hXS
      obtain ⟨so, sc, rfl⟩ := hS.form
      rw [hsn] at hus2 ⊢
      have z1 : sn ≤ maxLen := by unfold maxLen; omega
      have z2 : sn * 64 ≤ 140737488355328 := by omega
      obtain ⟨k, hk⟩ : ∃ k, at_ % sn = k := ⟨_, rfl⟩
      have hkT : (at_ : Int).tmod (sn : Int) = (k : Int) := by rw [← hk]; exact (Int.ofNat_tmod at_ sn).symm
      have hkN : k < sn := by rw [← hk]; exact Nat.mod_lt _ (by omega)
      have hsn0 : ¬ sn = 0 := by omega
      have hsn0' : ¬ (sn : Int) = 0 := by omega
      have wat : IntKind.i64.wrap (at_ : Int) = (at_ : Int) := by rw [IntKind.wrap_i64]; omega
      obtain ⟨r8, hr8⟩ : ∃ r8, bend % 8 = r8 := ⟨_, rfl⟩
      have hr8T : (bend : Int).tmod 8 = (r8 : Int) := by rw [← hr8]; exact (Int.ofNat_tmod bend 8).symm
      have wr8 : IntKind.u8.wrap (r8 : Int) = (r8 : Int) := by rw [IntKind.wrap_u8]; omega
      have hr8N : r8 < 8 := by omega
      have hkI : (k : Int) < (sn : Int) := by omega
      have hk0 : (0 : Int) ≤ (k : Int) := by omega
      obtain ⟨s0, hs0⟩ : ∃ s0, SS[k]? = some s0 := ⟨_, List.getElem?_eq_getElem (by omega)⟩
      obtain ⟨u0, hu0⟩ : ∃ u0, us[k]? = some u0 := ⟨_, List.getElem?_eq_getElem (by omega)⟩
      have hcl := fun c hc => flatSp_get SS us k c s0 u0 hus1 hs0 hu0 hc
      rw [hXS] at hcl
      have HS0 := Lib.hid (And.intro hs0 hu0)
      clear hus1 hus4 hS hsn hXS hs0 hu0 hr8
      go_upto_block 2 with (at_builtin; refine wpList_copy _ rfl _ _ 22 rfl 27 i0 _ 5 64 Tryd.underlying22 hi0 hz0 hz1 hz2 rfl (by omega) _ rfl rfl sn XS hus2 hus5 hus3 z1 z2 ?_; intro oN cN w4 hown hq4)
      obtain ⟨gN, rfl, hgb, hcn⟩ : ∃ gN, oN = some ⟨gN, 0, none⟩ ∧ w3.heap.size ≤ gN ∧ sn ≤ cN := by
        rcases hown.2 with ⟨h0, _⟩ | ⟨g', cap', cur, h0, hb', _, hnc, _⟩
        · simp only [Value.slice.injEq] at h0; omega
        · simp only [Value.slice.injEq] at h0
          obtain ⟨rfl, _, rfl⟩ := h0
          exact ⟨g', rfl, hb', hnc⟩
      have hSO : SpO w4 w3.heap.size 27 (.slice (some ⟨gN, 0, none⟩) sn cN) SS us := SpO.copy HY.out.1 HY.out.2.1 (by rw [HY.out.2.2.2, HX.out]; exact hown) hq4
      have HO := Lib.hid (And.intro hSO hq4)
      go_cut [21] (fun xv wx => ∃ (L2 : List Sp) (uo : Option Addr) (uc : Nat), xv = .slice uo L2.length uc ∧ IsSps wx (.slice uo L2.length uc) L2 ∧ SpsI L2 ∧ 1 ≤ L2.length ∧ L2.length ≤ 201 ∧ wellsN L2 ≤ 400 ∧ B w3 wx)
      case first =>
        have hcases : r8 = 0 ∨ r8 = 1 ∨ r8 = 2 ∨ r8 = 3 ∨ r8 = 4 ∨ r8 = 5 ∨ r8 = 6 ∨ r8 = 7 := by omega
        rcases hcases with rfl | rfl | rfl | rfl | rfl | rfl | rfl | rfl
        · have t0 : ((((0 : Nat) : Int)) == 0) = true := rfl
          have y0 := hown.cellAt (k * 5 + 3) (by omega)
          rw [hcl 3 (by omega)] at y0
          have y1 : w4.cell? ⟨gN, k * 5 + 3, none⟩ = some (.int .i64 s0.v) := y0
          have z9 := hown.frozenAt (k * 5 + 3)
          clear hown hq4 y0 hcl hus2 hus3 hus5 hSO
          go_wp2_with fail
          go_meet
          case rel =>
            have hset := HO.out.1.set (j := k) (c := 3) (x := (.int .i64 vv)) (s' := { s0 with v := vv }) (u' := u0) HY.out.2.2.2.symm HS0.out.1 HS0.out.2 (by omega) rfl (HO.out.1.row k u0 s0 HS0.out.2 HS0.out.1).1 (HO.out.1.row k u0 s0 HS0.out.2 HS0.out.1).2
            have hln : (SS.set k { s0 with v := vv }).length = sn := by rw [List.length_set]; exact HY.out.2.2.2
            refine ⟨SS.set k { s0 with v := vv }, some ⟨gN, 0, none⟩, cN, by rw [hln], by rw [hln]; exact hset.is hln.symm, ?_, by omega, by omega, ?_, HO.out.2.setCell (p := ⟨gN, k * 5 + 3, none⟩) hgb _⟩
            · exact spsI_set (spsI_of HSS.out.2.2) (spsI_of HSS.out.2.2 s0 (List.mem_of_getElem? HS0.out.1))
            · exact Nat.le_trans (set_few HS3.out HSS.out.1.2 k (m := 3) (by first | exact HS3.out s0 (List.mem_of_getElem? HS0.out.1) | (show 0 ≤ 3; omega))) (by omega)
        · have t0 : ((((1 : Nat) : Int)) == 0) = false := rfl
          have t1 : ((((1 : Nat) : Int)) == 1) = true := rfl
          have y0 := hown.cellAt (k * 5 + 4) (by omega)
          rw [hcl 4 (by omega)] at y0
          have y1 : w4.cell? ⟨gN, k * 5 + 4, none⟩ = some (.int .i64 s0.m) := y0
          have z9 := hown.frozenAt (k * 5 + 4)
          clear hown hq4 y0 hcl hus2 hus3 hus5 hSO
          go_wp2_with fail
          go_meet
          case rel =>
            have hset := HO.out.1.set (j := k) (c := 4) (x := (.int .i64 vv)) (s' := { s0 with m := vv }) (u' := u0) HY.out.2.2.2.symm HS0.out.1 HS0.out.2 (by omega) rfl (HO.out.1.row k u0 s0 HS0.out.2 HS0.out.1).1 (HO.out.1.row k u0 s0 HS0.out.2 HS0.out.1).2
            have hln : (SS.set k { s0 with m := vv }).length = sn := by rw [List.length_set]; exact HY.out.2.2.2
            refine ⟨SS.set k { s0 with m := vv }, some ⟨gN, 0, none⟩, cN, by rw [hln], by rw [hln]; exact hset.is hln.symm, ?_, by omega, by omega, ?_, HO.out.2.setCell (p := ⟨gN, k * 5 + 4, none⟩) hgb _⟩
            · exact spsI_set (spsI_of HSS.out.2.2) (spsI_of HSS.out.2.2 s0 (List.mem_of_getElem? HS0.out.1))
            · exact Nat.le_trans (set_few HS3.out HSS.out.1.2 k (m := 3) (by first | exact HS3.out s0 (List.mem_of_getElem? HS0.out.1) | (show 0 ≤ 3; omega))) (by omega)
        · have t0 : ((((2 : Nat) : Int)) == 0) = false := rfl
          have t1 : ((((2 : Nat) : Int)) == 1) = false := rfl
          have t2 : ((((2 : Nat) : Int)) == 2) = true := rfl
          have y0 := hown.cellAt (k * 5 + 1) (by omega)
          rw [hcl 1 (by omega)] at y0
          have y1 : w4.cell? ⟨gN, k * 5 + 1, none⟩ = some (.string s0.n) := y0
          have z9 := hown.frozenAt (k * 5 + 1)
          clear hown hq4 y0 hcl hus2 hus3 hus5 hSO
          go_wp2_with fail
          go_meet
          case rel =>
            have hset := HO.out.1.set (j := k) (c := 1) (x := (.string { data := #[97] })) (s' := { s0 with n := { data := #[97] } }) (u' := u0) HY.out.2.2.2.symm HS0.out.1 HS0.out.2 (by omega) rfl (HO.out.1.row k u0 s0 HS0.out.2 HS0.out.1).1 (HO.out.1.row k u0 s0 HS0.out.2 HS0.out.1).2
            have hln : (SS.set k { s0 with n := { data := #[97] } }).length = sn := by rw [List.length_set]; exact HY.out.2.2.2
            refine ⟨SS.set k { s0 with n := { data := #[97] } }, some ⟨gN, 0, none⟩, cN, by rw [hln], by rw [hln]; exact hset.is hln.symm, ?_, by omega, by omega, ?_, HO.out.2.setCell (p := ⟨gN, k * 5 + 1, none⟩) hgb _⟩
            · exact spsI_set (spsI_of HSS.out.2.2) (spsI_of HSS.out.2.2 s0 (List.mem_of_getElem? HS0.out.1))
            · exact Nat.le_trans (set_few HS3.out HSS.out.1.2 k (m := 3) (by first | exact HS3.out s0 (List.mem_of_getElem? HS0.out.1) | (show 0 ≤ 3; omega))) (by omega)
        · have t0 : ((((3 : Nat) : Int)) == 0) = false := rfl
          have t1 : ((((3 : Nat) : Int)) == 1) = false := rfl
          have t2 : ((((3 : Nat) : Int)) == 2) = false := rfl
          have t3 : ((((3 : Nat) : Int)) == 3) = true := rfl
          obtain ⟨b8, hb8⟩ : ∃ b8, bend / 8 = b8 := ⟨_, rfl⟩
          have hb8T : (bend : Int).tdiv 8 = (b8 : Int) := by rw [← hb8]; exact (Int.ofNat_tdiv bend 8).symm
          have wb8 : IntKind.u8.wrap (b8 : Int) = (b8 : Int) := by rw [IntKind.wrap_u8]; omega
          have wb8' : IntKind.i64.wrap (b8 : Int) = (b8 : Int) := by rw [IntKind.wrap_i64]; omega
          obtain ⟨k9, hk9⟩ : ∃ k9, b8 % 9 = k9 := ⟨_, rfl⟩
          have hk9T : (b8 : Int).tmod 9 = (k9 : Int) := by rw [← hk9]; exact (Int.ofNat_tmod b8 9).symm
          have y0 := hown.cellAt (k * 5 + 0) (by omega)
          rw [hcl 0 (by omega)] at y0
          have y1 : w4.cell? ⟨gN, k * 5, none⟩ = some (.int .i64 s0.k) := y0
          have z9 : w4.frozen? ⟨gN, k * 5, none⟩ = false := hown.frozenAt (k * 5 + 0)
          clear hown hq4 y0 hcl hus2 hus3 hus5 hSO
          go_wp2_with fail
          go_meet
          case rel =>
            have hset := HO.out.1.set (j := k) (c := 0) (x := (.int .i64 (k9 : Int))) (s' := { s0 with k := (k9 : Int) }) (u' := u0) HY.out.2.2.2.symm HS0.out.1 HS0.out.2 (by omega) rfl (HO.out.1.row k u0 s0 HS0.out.2 HS0.out.1).1 (HO.out.1.row k u0 s0 HS0.out.2 HS0.out.1).2
            have hln : (SS.set k { s0 with k := (k9 : Int) }).length = sn := by rw [List.length_set]; exact HY.out.2.2.2
            refine ⟨SS.set k { s0 with k := (k9 : Int) }, some ⟨gN, 0, none⟩, cN, by rw [hln], by rw [hln]; exact hset.is hln.symm, ?_, by omega, by omega, ?_, HO.out.2.setCell (p := ⟨gN, k * 5 + 0, none⟩) hgb _⟩
            · exact spsI_set (spsI_of HSS.out.2.2) (spsI_of HSS.out.2.2 s0 (List.mem_of_getElem? HS0.out.1))
            · exact Nat.le_trans (set_few HS3.out HSS.out.1.2 k (m := 3) (by first | exact HS3.out s0 (List.mem_of_getElem? HS0.out.1) | (show 0 ≤ 3; omega))) (by omega)
        · have t0 : ((((4 : Nat) : Int)) == 0) = false := rfl
          have t1 : ((((4 : Nat) : Int)) == 1) = false := rfl
          have t2 : ((((4 : Nat) : Int)) == 2) = false := rfl
          have t3 : ((((4 : Nat) : Int)) == 3) = false := rfl
          have t4 : ((((4 : Nat) : Int)) == 4) = true := rfl
          have hIW := (HO.out.1.row k u0 s0 HS0.out.2 HS0.out.1).1
          have hW3 := HS3.out s0 (List.mem_of_getElem? HS0.out.1)
          have y0 := hown.cellAt (k * 5 + 2) (by omega)
          rw [hcl 2 (by omega)] at y0
          have y1 : w4.cell? ⟨gN, k * 5 + 2, none⟩ = some u0 := y0
          have hgl : gN < w4.heap.size := World.block_lt_of_cell? w4 _ y1
          have hRI := wps_rowIn hIW
          have hFl := flatWp_len s0.w
          obtain ⟨m0, hm0⟩ : ∃ m0, s0.w.length = m0 := ⟨_, rfl⟩
          rw [hm0] at hRI hFl hW3
          obtain ⟨uo0, uc0, hu0⟩ := hIW.form
          rw [hm0] at hu0
          rw [hu0] at y1 hRI
          obtain ⟨i1, hi1, hy0, hy1, hy2⟩ := info_of wellInfoP
          have z3 : m0 ≤ maxLen := by unfold maxLen; omega
          have z4 : m0 * 32 ≤ 140737488355328 := by omega
          have z9 := hown.frozenAt (k * 5 + 2)
          have h1c := flatWp_one' s0.w
          obtain ⟨FW, hFW⟩ : ∃ FW, flatWp s0.w = FW := ⟨_, rfl⟩
          rw [hFW] at hRI hFl h1c
          have HOW := Lib.hid hown
          have HGB := Lib.hid (And.intro hgl hgb)
          have HU0 := Lib.hid (And.intro hu0 (And.intro hm0 (And.intro hFW hW3)))
          clear hown hq4 y0 hcl hus2 hus3 hus5 hSO hIW hu0 hm0 hFW
          obtain ⟨vb, hvb⟩ : ∃ vb, bits .and .i64 vv 15 = vb := ⟨_, rfl⟩
          have HVB := Lib.hid hvb
          have hm03 := HU0.out.2.2.2
          go_upto_region 26 with (at_builtin; refine wpList_copy _ rfl _ _ 25 rfl 36 i1 _ 3 32 Tryd.underlying25 hi1 hy0 hy1 hy2 rfl (by omega) _ rfl rfl m0 FW hRI hFl h1c z3 z4 ?_; intro oW cW w5 hownW hq5; have y2 := hq5.keep y1; have z2' := (row_keep HOW.out hq5).frozenAt (k * 5 + 2); replace hownW := Lib.hid (And.intro hownW hq5); clear hq5)
          have row5 := row_keep HOW.out hownW.out.2
          have row6 := (row5.stored (k * 5 + 2) (.slice oW m0 cW)).1
          have qB6 : B w3 (w5.setCell ⟨gN, k * 5 + 2, none⟩ (.slice oW m0 cW)) := (HO.out.2.trans hownW.out.2).setCell (p := ⟨gN, k * 5 + 2, none⟩) HGB.out.2 _
          have t6 : Tn [some 27] 0 w5 (w5.setCell ⟨gN, k * 5 + 2, none⟩ (.slice oW m0 cW)) := by
            obtain ⟨_, cs, ho⟩ := ownsRow_obj row5 (i := gN) rfl
            exact Tn.set (p := ⟨gN, k * 5 + 2, none⟩) (Tn.refl _ _ _) ho (by simp) (Nat.zero_le _) _
          have rowW6 := own_tnU hownW.out.1 t6 (by decide)
          have hz6 : w4.heap.size ≤ (w5.setCell ⟨gN, k * 5 + 2, none⟩ (.slice oW m0 cW)).heap.size := Nat.le_trans hownW.out.2.below.size t6.size
          have hXS2 : XS.length = sn * 5 := by have := HOW.out.1; omega
          have y6 : (w5.setCell ⟨gN, k * 5 + 2, none⟩ (.slice oW m0 cW)).cell? ⟨gN, k * 5 + 2, none⟩ = some (.slice oW m0 cW) := by
            rw [row6.cellAt (k * 5 + 2) (by omega)]
            exact List.getElem?_set_self (by rw [hXS2]; omega)
          have HR6 := Lib.hid (And.intro row6 (And.intro rowW6 (And.intro qB6 (And.intro hz6 hXS2))))
          clear row5 row6 rowW6 qB6 t6 hz6 hownW y2 z2' y1 z9
          generalize w5.setCell ⟨gN, k * 5 + 2, none⟩ (.slice oW m0 cW) = w6 at *
          go_wp2_with (at_builtin; refine wpList_append_lies _ rfl _ _ 25 rfl w4.heap.size 36 i1 _ 3 32 Tryd.underlying25 hi1 hy0 hy1 hy2 rfl (by omega) (.slice oW m0 cW) m0 FW rfl (row_keep HR6.out.2.1 ((B.refl w6).alloc #[.string ⟨#[112]⟩, .int .i64 vb, .int .i64 3] 36)) ⟨_, 0, none⟩ 1 1 [.string ⟨#[112]⟩, .int .i64 vb, .int .i64 3] rfl rfl (newest (by simp)) (fun u hu => by simp only [List.mem_cons, List.not_mem_nil, or_false] at hu; rcases hu with rfl | rfl | rfl <;> rfl) (by omega) (by unfold maxLen; omega) (by omega) (by have := HR6.out.2.2.2.1; have := ((B.refl w6).alloc #[.string ⟨#[112]⟩, .int .i64 vb, .int .i64 3] 36).below.size; omega) _ rfl ?_; intro g1 c1 W8 hown8 hgrow8 hat8 hlt8; have row8 := far_row (row_keep HR6.out.1 ((B.refl w6).alloc #[.string ⟨#[112]⟩, .int .i64 vb, .int .i64 3] 36)) (row_keep HR6.out.2.1 ((B.refl w6).alloc #[.string ⟨#[112]⟩, .int .i64 vb, .int .i64 3] 36)) hgrow8 (by decide); have qB8 := (HR6.out.2.2.1.alloc #[.string ⟨#[112]⟩, .int .i64 vb, .int .i64 3] 36).grownBy hgrow8 (fun x hx => by have := ((row_keep HR6.out.2.1 ((B.refl w6).alloc #[.string ⟨#[112]⟩, .int .i64 vb, .int .i64 3] 36)).lt x hx).1; have := HO.out.2.below.size; omega); have y8 := row8.cellAt (k * 5 + 2) (by have := HR6.out.2.2.2.2; omega); rw [List.getElem?_set_self (by have := HR6.out.2.2.2.2; omega)] at y8; have z8 := row8.frozenAt (k * 5 + 2); replace hown8 := Lib.hid (And.intro hown8 (And.intro row8 qB8)); clear hgrow8 hat8 hlt8 row8 qB8 y6; go_wp2_with fail)
          go_meet
          case rel =>
            have row9 := (hown8.out.2.1.stored (k * 5 + 2) (.slice (some ⟨g1, 0, none⟩) (m0 + 1) c1)).1
            rw [List.set_set] at row9
            have hfs := flatSp_set SS us k 2 s0 { s0 with w := s0.w ++ [⟨⟨#[112]⟩, vb, 3⟩] } u0 (.slice (some ⟨g1, 0, none⟩) (m0 + 1) c1) (.slice (some ⟨g1, 0, none⟩) (m0 + 1) c1) HY.out.1 HS0.out.1 HS0.out.2 (by omega) rfl
            rw [HX.out] at hfs
            rw [hfs] at row9
            have t9 : Tn [some 27] 0 W8 (W8.setCell ⟨gN, k * 5 + 2, none⟩ (.slice (some ⟨g1, 0, none⟩) (m0 + 1) c1)) := by
              obtain ⟨_, cs, ho⟩ := ownsRow_obj hown8.out.2.1 (i := gN) rfl
              exact Tn.set (p := ⟨gN, k * 5 + 2, none⟩) (Tn.refl _ _ _) ho (by simp) (Nat.zero_le _) _
            have rowW9 := own_tnU hown8.out.1 t9 (by decide)
            have qB9 : B w3 (W8.setCell ⟨gN, k * 5 + 2, none⟩ (.slice (some ⟨g1, 0, none⟩) (m0 + 1) c1)) := hown8.out.2.2.setCell (p := ⟨gN, k * 5 + 2, none⟩) HGB.out.2 _
            have hln : (SS.set k { s0 with w := s0.w ++ [⟨⟨#[112]⟩, vb, 3⟩] }).length = sn := by rw [List.length_set]; exact HY.out.2.2.2
            have hIs := sps_own (S := SS.set k { s0 with w := s0.w ++ [⟨⟨#[112]⟩, vb, 3⟩] }) (vs := us.set k (.slice (some ⟨g1, 0, none⟩) (m0 + 1) c1)) (by rw [List.length_set, List.length_set]; exact HY.out.1) row9 hln.symm (fun jj u s hu hs => by
              by_cases hjj : k = jj
              · subst hjj
                rw [List.getElem?_set_self (by have := HY.out.1; have := HY.out.2.2.2; omega)] at hu
                rw [List.getElem?_set_self (by have := HY.out.2.2.2; omega)] at hs
                cases hu
                cases hs
                have hw := rowW9
                rw [← HU0.out.2.2.1, ← flatWp_snoc (s0.w) ⟨⟨#[112]⟩, vb, 3⟩] at hw
                refine isWps_own (base := w4.heap.size) (e := 36) (l := s0.w ++ [⟨⟨#[112]⟩, vb, 3⟩]) ?_
                rw [List.length_append, HU0.out.2.1]
                exact hw
              · rw [List.getElem?_set_ne hjj] at hu hs
                exact (HY.out.2.1 jj u s hu hs).keepB qB9)
            refine ⟨SS.set k { s0 with w := s0.w ++ [⟨⟨#[112]⟩, vb, 3⟩] }, some ⟨gN, 0, none⟩, cN, by rw [hln], by rw [hln]; exact hIs, ?_, by omega, by omega, ?_, qB9⟩
            · refine spsI_set (spsI_of HSS.out.2.2) (fun p hp => ?_)
              rcases List.mem_append.1 hp with hp | hp
              · exact spsI_of HSS.out.2.2 s0 (List.mem_of_getElem? HS0.out.1) p hp
              · obtain rfl := List.mem_singleton.1 hp
                exact ⟨by rw [← HVB.out]; exact and_small vv, by unfold I64; simp only; omega⟩
            · exact Nat.le_trans (set_few HS3.out HSS.out.1.2 k (m := 4) (by show (s0.w ++ [_]).length ≤ 4; rw [List.length_append, HU0.out.2.1]; have := HU0.out.2.2.2; show m0 + 1 ≤ 4; omega)) (by omega)
        · have t0 : ((((5 : Nat) : Int)) == 0) = false := rfl
          have t1 : ((((5 : Nat) : Int)) == 1) = false := rfl
          have t2 : ((((5 : Nat) : Int)) == 2) = false := rfl
          have t3 : ((((5 : Nat) : Int)) == 3) = false := rfl
          have t4 : ((((5 : Nat) : Int)) == 4) = false := rfl
          have t5 : ((((5 : Nat) : Int)) == 5) = true := rfl
          have y0 := hown.cellAt (k * 5 + 2) (by omega)
          rw [hcl 2 (by omega)] at y0
          have y1 : w4.cell? ⟨gN, k * 5 + 2, none⟩ = some (u0) := y0
          have z9 := hown.frozenAt (k * 5 + 2)
          clear hown hq4 y0 hcl hus2 hus3 hus5 hSO
          go_wp2_with fail
          go_meet
          case rel =>
            have hset := HO.out.1.set (j := k) (c := 2) (x := (.slice none 0 0)) (s' := { s0 with w := [] }) (u' := .slice none 0 0) HY.out.2.2.2.symm HS0.out.1 HS0.out.2 (by omega) rfl (.inl ⟨rfl, rfl⟩) (fun h => absurd rfl h)
            have hln : (SS.set k { s0 with w := [] }).length = sn := by rw [List.length_set]; exact HY.out.2.2.2
            refine ⟨SS.set k { s0 with w := [] }, some ⟨gN, 0, none⟩, cN, by rw [hln], by rw [hln]; exact hset.is hln.symm, ?_, by omega, by omega, ?_, HO.out.2.setCell (p := ⟨gN, k * 5 + 2, none⟩) hgb _⟩
            · exact spsI_set (spsI_of HSS.out.2.2) (fun p hp => by simp at hp)
            · exact Nat.le_trans (set_few HS3.out HSS.out.1.2 k (m := 3) (by first | exact HS3.out s0 (List.mem_of_getElem? HS0.out.1) | (show 0 ≤ 3; omega))) (by omega)
        · have t0 : ((((6 : Nat) : Int)) == 0) = false := rfl
          have t1 : ((((6 : Nat) : Int)) == 1) = false := rfl
          have t2 : ((((6 : Nat) : Int)) == 2) = false := rfl
          have t3 : ((((6 : Nat) : Int)) == 3) = false := rfl
          have t4 : ((((6 : Nat) : Int)) == 4) = false := rfl
          have t5 : ((((6 : Nat) : Int)) == 5) = false := rfl
          have t6 : ((((6 : Nat) : Int)) == 6) = true := rfl
          obtain ⟨b8, hb8⟩ : ∃ b8, bend / 8 = b8 := ⟨_, rfl⟩
          have hb8T : (bend : Int).tdiv 8 = (b8 : Int) := by rw [← hb8]; exact (Int.ofNat_tdiv bend 8).symm
          have wb8 : IntKind.u8.wrap (b8 : Int) = (b8 : Int) := by rw [IntKind.wrap_u8]; omega
          have wb8' : IntKind.i64.wrap (b8 : Int) = (b8 : Int) := by rw [IntKind.wrap_i64]; omega
          obtain ⟨k3, hk3⟩ : ∃ k3, b8 % 3 = k3 := ⟨_, rfl⟩
          have hk3T : (b8 : Int).tmod 3 = (k3 : Int) := by rw [← hk3]; exact (Int.ofNat_tmod b8 3).symm
          have hk33 : k3 < 3 := by rw [← hk3]; exact Nat.mod_lt _ (by omega)
          have wk3' : IntKind.i64.wrap (k3 : Int) = (k3 : Int) := by rw [IntKind.wrap_i64]; omega
          obtain ⟨nn, hnn⟩ : ∃ nn, 95 + k3 = nn := ⟨_, rfl⟩
          have w95 : IntKind.i64.wrap (95 + (k3 : Int)) = (nn : Int) := by rw [IntKind.wrap_i64]; omega
          have hnn2 : 95 ≤ nn ∧ nn ≤ 97 := by omega
          have y0 := hown.cellAt (k * 5 + 2) (by omega)
          rw [hcl 2 (by omega)] at y0
          have y1 : w4.cell? ⟨gN, k * 5 + 2, none⟩ = some u0 := y0
          have z9 := hown.frozenAt (k * 5 + 2)
          obtain ⟨i1, hi1, hy0, hy1, hy2⟩ := info_of wellInfoP
          have hmade := made_wells nn
          have hb16 : i1.bytes * nn ≤ 281474976710656 := by rw [hy2]; omega
          have hbml : nn ≤ maxLen := by unfold maxLen; omega
          have HOW := Lib.hid hown
          have hgl : gN < w4.heap.size := World.block_lt_of_cell? w4 _ y1
          have HGB := Lib.hid (And.intro hgl hgb)
          clear hown hq4 y0 hcl hus2 hus3 hus5 hSO hk3 hb8 hnn hgl
          go_upto_region 31 with (at_make; refine wpList_make_full _ rfl _ _ 25 rfl w4.heap.size 36 i1 _ 3 Tryd.underlying25 hi1 hy0 hy1 .i64 .i64 _ _ nn rfl rfl rfl rfl hb16 hbml (Nat.le_refl _) ?_; intro wm hrow hgrow; have hr2 : wm.ownsRow w4.heap.size 36 3 (.slice (some ⟨w4.heap.size, 0, none⟩) nn nn) nn (flatWp (List.replicate nn wpZ)) := (by rw [← hmade]; exact hrow); have qm := (B.refl w4).grownBy hgrow (fun _ h => by cases h); have y2 := qm.keep y1; have z2' := (row_keep HOW.out qm).frozenAt (k * 5 + 2); replace hr2 := Lib.hid (And.intro hr2 qm); clear hgrow hrow qm)
          have row5 := row_keep HOW.out hr2.out.2
          have row6 := (row5.stored (k * 5 + 2) (.slice (some ⟨w4.heap.size, 0, none⟩) nn nn)).1
          have qB6 : B w3 (wm.setCell ⟨gN, k * 5 + 2, none⟩ (.slice (some ⟨w4.heap.size, 0, none⟩) nn nn)) := (HO.out.2.trans hr2.out.2).setCell (p := ⟨gN, k * 5 + 2, none⟩) HGB.out.2 _
          have t6' : Tn [some 27] 0 wm (wm.setCell ⟨gN, k * 5 + 2, none⟩ (.slice (some ⟨w4.heap.size, 0, none⟩) nn nn)) := by
            obtain ⟨_, cs, ho⟩ := ownsRow_obj row5 (i := gN) rfl
            exact Tn.set (p := ⟨gN, k * 5 + 2, none⟩) (Tn.refl _ _ _) ho (by simp) (Nat.zero_le _) _
          have rowW6 := own_tnU hr2.out.1 t6' (by decide)
          have hXS2 : XS.length = sn * 5 := by have := HOW.out.1; omega
          have hk5 : k * 5 + 2 < XS.length := by rw [hXS2]; omega
          have HR6 := Lib.hid (And.intro hXS2 (And.intro HO.out.2.below.size (And.intro HGB.out.1 hnn2)))
          clear row5 t6' hr2 y2 z2' y1 z9 hmade hb16 hbml hXS2 hnn2
          generalize hg9 : w4.heap.size = g9 at *
          generalize wm.setCell ⟨gN, k * 5 + 2, none⟩ (.slice (some ⟨g9, 0, none⟩) nn nn) = w6 at *
          have H6 := Lib.hid (And.intro row6 (And.intro rowW6 qB6))
          clear row6 rowW6 qB6 hg9
          go_wp2_with fail
          go_loopw [23] (fun iv wr => ∃ j : Nat, j ≤ nn ∧ iv = .int .i64 j ∧ wr.ownsRow g9 36 3 (.slice (some ⟨g9, 0, none⟩) nn nn) nn (flatWp (halfW ⟨⟨#[112]⟩, 0, 0⟩ nn j)) ∧ wr.ownsRow w3.heap.size 27 5 (.slice (some ⟨gN, 0, none⟩) sn cN) sn (XS.set (k * 5 + 2) (.slice (some ⟨g9, 0, none⟩) nn nn)) ∧ B w3 wr) (fun iv _ => nn + 1 - (intOf iv).toNat)
          case atStart => exact ⟨0, Nat.zero_le _, rfl, by rw [halfW_zero]; exact H6.out.2.1, H6.out.1, H6.out.2.2⟩
          case round =>
            obtain ⟨j, hj, rfl, hrw, hrs, qr⟩ := hrel
            obtain ⟨wq, rfl⟩ : ∃ wq : World, wq = wr := ⟨_, rfl⟩
            have yk := hrs.cellAt (k * 5 + 2) (by omega)
            rw [List.getElem?_set_self hk5] at yk
            by_cases hl : j < nn
            · have hjB : decide ((j : Int) < (nn : Int)) = true := decide_eq_true (by omega)
              have hjN : decide (j < nn) = true := decide_eq_true hl
              have hjI : (j : Int) < (nn : Int) := by omega
              have hj0 : (0 : Int) ≤ (j : Int) := by omega
              have wj1 : IntKind.i64.wrap ((j : Int) + 1) = (j : Int) + 1 := by have := HR6.out.2.2.2.2; rw [IntKind.wrap_i64]; omega
              have hg3 := flatWp_get _ _ _ (halfW_at ⟨⟨#[112]⟩, 0, 0⟩ hl)
              have c0 := hrw.cellAt (j * 3) (by omega)
              have c1 := hrw.cellAt (j * 3 + 1) (by omega)
              have c2 := hrw.cellAt (j * 3 + 2) (by omega)
              rw [hg3.1] at c0
              rw [hg3.2.1] at c1
              rw [hg3.2.2] at c2
              have f0 := hrw.frozenAt (j * 3)
              have f1 := hrw.frozenAt (j * 3 + 1)
              have f2 := hrw.frozenAt (j * 3 + 2)
              have r1 := (hrw.stored (j * 3) (.string ⟨#[112]⟩)).1
              have r2 := (r1.stored (j * 3 + 1) (.int .i64 0)).1
              have r3 := (r2.stored (j * 3 + 2) (.int .i64 0)).1
              rw [flatWp_set _ j ⟨⟨#[112]⟩, 0, 0⟩ (by rw [halfW_len _ (by omega)]; exact hl), halfW_set _ hl] at r3
              have tq : Tn [some 36] 0 wq (((wq.setCell ⟨g9, j * 3, none⟩ (.string ⟨#[112]⟩)).setCell ⟨g9, j * 3 + 1, none⟩ (.int .i64 0)).setCell ⟨g9, j * 3 + 2, none⟩ (.int .i64 0)) := by
                obtain ⟨_, cs, ho⟩ := ownsRow_obj hrw (i := g9) rfl
                have h1 := Tn.set (K := [some 36]) (base := 0) (p := ⟨g9, j * 3, none⟩) (Tn.refl _ _ _) ho (by simp) (Nat.zero_le _) (.string ⟨#[112]⟩)
                obtain ⟨_, cs1, ho1⟩ := ownsRow_obj r1 (i := g9) rfl
                have h2 := Tn.set (p := ⟨g9, j * 3 + 1, none⟩) h1 ho1 (by simp) (Nat.zero_le _) (.int .i64 0)
                obtain ⟨_, cs2, ho2⟩ := ownsRow_obj r2 (i := g9) rfl
                exact Tn.set (p := ⟨g9, j * 3 + 2, none⟩) h2 ho2 (by simp) (Nat.zero_le _) (.int .i64 0)
              have hrs' := own_tnU hrs tq (by decide)
              have qr' : B w3 (((wq.setCell ⟨g9, j * 3, none⟩ (.string ⟨#[112]⟩)).setCell ⟨g9, j * 3 + 1, none⟩ (.int .i64 0)).setCell ⟨g9, j * 3 + 2, none⟩ (.int .i64 0)) := ((qr.setCell (p := ⟨g9, j * 3, none⟩) HR6.out.2.1 _).setCell (p := ⟨g9, j * 3 + 1, none⟩) HR6.out.2.1 _).setCell (p := ⟨g9, j * 3 + 2, none⟩) HR6.out.2.1 _
              have HX6 := Lib.hid (And.intro hl (And.intro r3 (And.intro hrs' qr')))
              have hne6 : ¬ g9 = gN := by have := HR6.out.2.2.1; omega
              have hne6' : ¬ gN = g9 := by have := HR6.out.2.2.1; omega
              clear hl hj hrw hrs qr hg3 r1 r2 r3 tq hrs' qr'
              go_wp2
              go_roundw
              case rel => exact ⟨j + 1, by have := HX6.out.1; omega, by go_num, HX6.out.2.1, HX6.out.2.2.1, HX6.out.2.2.2⟩
              case measure => have := HX6.out.1; simp [intOf]; omega
            · have hjB : decide ((j : Int) < (nn : Int)) = false := decide_eq_false (by omega)
              have hjN : decide (j < nn) = false := decide_eq_false hl
              obtain rfl : j = nn := by omega
              rw [halfW_full] at hrw
              have HX6 := Lib.hid (And.intro hrw (And.intro hrs qr))
              clear hl hj hrw hrs qr
              go_wp2_with fail
              go_meet
              case rel =>
                obtain ⟨hrw, hrs, qr⟩ := HX6.out
                have hfs := flatSp_set SS us k 2 s0 { s0 with w := List.replicate j ⟨⟨#[112]⟩, 0, 0⟩ } u0 (.slice (some ⟨g9, 0, none⟩) j j) (.slice (some ⟨g9, 0, none⟩) j j) HY.out.1 HS0.out.1 HS0.out.2 (by omega) rfl
                rw [HX.out] at hfs
                rw [hfs] at hrs
                have hln : (SS.set k { s0 with w := List.replicate j ⟨⟨#[112]⟩, 0, 0⟩ }).length = sn := by rw [List.length_set]; exact HY.out.2.2.2
                have hIs := sps_own (S := SS.set k { s0 with w := List.replicate j ⟨⟨#[112]⟩, 0, 0⟩ }) (vs := us.set k (.slice (some ⟨g9, 0, none⟩) j j)) (by rw [List.length_set, List.length_set]; exact HY.out.1) hrs hln.symm (fun jj u s hu hs => by
                  by_cases hjj : k = jj
                  · subst hjj
                    rw [List.getElem?_set_self (by have := HY.out.1; have := HY.out.2.2.2; omega)] at hu
                    rw [List.getElem?_set_self (by have := HY.out.2.2.2; omega)] at hs
                    cases hu
                    cases hs
                    refine isWps_own (base := g9) (e := 36) (l := List.replicate j ⟨⟨#[112]⟩, 0, 0⟩) ?_
                    rw [List.length_replicate]
                    exact hrw
                  · rw [List.getElem?_set_ne hjj] at hu hs
                    exact (HY.out.2.1 jj u s hu hs).keepB qr)
                refine ⟨SS.set k { s0 with w := List.replicate j ⟨⟨#[112]⟩, 0, 0⟩ }, some ⟨gN, 0, none⟩, cN, by rw [hln], by rw [hln]; exact hIs, ?_, by omega, by omega, ?_, qr⟩
                · refine spsI_set (spsI_of HSS.out.2.2) (fun p hp => ?_)
                  obtain rfl := List.eq_of_mem_replicate hp
                  unfold I64
                  simp only
                  omega
                · exact Nat.le_trans (set_few HS3.out HSS.out.1.2 k (m := 97) (by show (List.replicate j _).length ≤ 97; rw [List.length_replicate]; exact HR6.out.2.2.2.2)) (by omega)
        · have t0 : ((((7 : Nat) : Int)) == 0) = false := rfl
          have t1 : ((((7 : Nat) : Int)) == 1) = false := rfl
          have t2 : ((((7 : Nat) : Int)) == 2) = false := rfl
          have t3 : ((((7 : Nat) : Int)) == 3) = false := rfl
          have t4 : ((((7 : Nat) : Int)) == 4) = false := rfl
          have t5 : ((((7 : Nat) : Int)) == 5) = false := rfl
          have t6 : ((((7 : Nat) : Int)) == 6) = false := rfl
          obtain ⟨b8, hb8⟩ : ∃ b8, bend / 8 = b8 := ⟨_, rfl⟩
          have hb8T : (bend : Int).tdiv 8 = (b8 : Int) := by rw [← hb8]; exact (Int.ofNat_tdiv bend 8).symm
          have wb8 : IntKind.u8.wrap (b8 : Int) = (b8 : Int) := by rw [IntKind.wrap_u8]; omega
          have wb8' : IntKind.i64.wrap (b8 : Int) = (b8 : Int) := by rw [IntKind.wrap_i64]; omega
          obtain ⟨k3, hk3⟩ : ∃ k3, b8 % 3 = k3 := ⟨_, rfl⟩
          have hk3T : (b8 : Int).tmod 3 = (k3 : Int) := by rw [← hk3]; exact (Int.ofNat_tmod b8 3).symm
          have hk33 : k3 < 3 := by rw [← hk3]; exact Nat.mod_lt _ (by omega)
          have wk3' : IntKind.i64.wrap (k3 : Int) = (k3 : Int) := by rw [IntKind.wrap_i64]; omega
          obtain ⟨nn, hnn⟩ : ∃ nn, 199 + k3 = nn := ⟨_, rfl⟩
          have w199 : IntKind.i64.wrap (199 + (k3 : Int)) = (nn : Int) := by rw [IntKind.wrap_i64]; omega
          have hnn2 : 199 ≤ nn ∧ nn ≤ 201 := by omega
          obtain ⟨S0, hS00, hS0w⟩ := HS00.out
          obtain ⟨x0, hx0⟩ : ∃ x0, us[0]? = some x0 := ⟨_, List.getElem?_eq_getElem (by have := HY.out.1; have := HY.out.2.2.2; omega)⟩
          have hIx := HY.out.2.1 0 x0 S0 hx0 hS00
          have hIx' := hIx
          obtain ⟨xo, xc, rfl⟩ := hIx.form
          rw [hS0w] at hx0 hIx'
          simp only [List.length_nil] at hx0 hIx'
          have hown7 : w4.ownsRow w3.heap.size 27 5 (.slice (some ⟨gN, 0, none⟩) sn cN) sn (flatSp SS us) := by rw [HX.out]; exact hown
          have H7 := Lib.hid (And.intro hown7 (And.intro HO.out.2 (And.intro hnn2 (And.intro hS00 (And.intro hS0w (And.intro hx0 hIx'))))))
          clear hown hq4 hcl hus2 hus3 hus5 hSO hk3 hb8 hnn hown7 hnn2 hS00 hS0w hx0 hIx hIx'
          go_wp2_with fail
          rw [show (((7 : Nat)) : Int) = (7 : Int) from rfl]
          go_loopw [21] (fun yv wr => ∃ (A j : Nat) (yo : Option Addr) (yc : Nat), A = sn + j ∧ A ≤ nn ∧ yv = .slice yo A yc ∧ wr.ownsRow w3.heap.size 27 5 (.slice yo A yc) A (flatSp (SS ++ List.replicate j S0) (us ++ List.replicate j (.slice xo 0 xc))) ∧ B w3 wr) (fun yv _ => 202 - lenV yv)
          case atStart => exact ⟨sn, 0, _, _, rfl, by have := H7.out.2.2.1; omega, rfl, by simpa using H7.out.1, H7.out.2.1⟩
          case round =>
            obtain ⟨A, j, yo, yc, hA, hAn, rfl, hrs, qr⟩ := hrel
            obtain ⟨wq, rfl⟩ : ∃ wq : World, wq = wr := ⟨_, rfl⟩
            by_cases hl : A < nn
            · have hjB : decide ((A : Int) < (nn : Int)) = true := decide_eq_true (by omega)
              have hjN : decide (A < nn) = true := decide_eq_true hl
              obtain ⟨gy, hgy, _, _, _⟩ := own_full hrs (by omega)
              subst hgy
              have hA0 : 0 < A := by omega
              have hA0' : (0 : Int) < (A : Int) := by omega
              have hA201 : A < 201 := by have := H7.out.2.2.1; omega
              have hgS : (SS ++ List.replicate j S0)[0]? = some S0 := by rw [List.getElem?_append_left (by have := HY.out.2.2.2; omega)]; exact H7.out.2.2.2.1
              have hgU : (us ++ List.replicate j (Value.slice xo 0 xc))[0]? = some (.slice xo 0 xc) := by rw [List.getElem?_append_left (by have := HY.out.1; have := HY.out.2.2.2; omega)]; exact H7.out.2.2.2.2.2.1
              have hlen7 : (us ++ List.replicate j (Value.slice xo 0 xc)).length = (SS ++ List.replicate j S0).length := by rw [List.length_append, List.length_append, List.length_replicate, List.length_replicate, HY.out.1]
              have hcc : ∀ c, c < 5 → wq.cell? ⟨gy, c, none⟩ = (S0.cells (.slice xo 0 xc))[c]? := fun c hc => by
                have h := hrs.cellAt c (by omega)
                rw [h]
                have h2 := flatSp_get _ _ 0 c S0 (.slice xo 0 xc) hlen7 hgS hgU hc
                simpa using h2
              have c0 : wq.cell? ⟨gy, 0, none⟩ = some (.int .i64 S0.k) := hcc 0 (by omega)
              have c1 : wq.cell? ⟨gy, 1, none⟩ = some (.string S0.n) := hcc 1 (by omega)
              have c2 : wq.cell? ⟨gy, 2, none⟩ = some (.slice xo 0 xc) := hcc 2 (by omega)
              have c3 : wq.cell? ⟨gy, 3, none⟩ = some (.int .i64 S0.v) := hcc 3 (by omega)
              have c4 : wq.cell? ⟨gy, 4, none⟩ = some (.int .i64 S0.m) := hcc 4 (by omega)
              have HX7 := Lib.hid (And.intro hl (And.intro hA (And.intro hlen7 qr)))
              have hbz := qr.below.size
              have own7 := row_keep hrs ((B.refl wq).alloc #[.int .i64 S0.k, .string S0.n, .slice xo 0 xc, .int .i64 S0.v, .int .i64 S0.m] 27)
              have hbz2 := ((B.refl wq).alloc #[.int .i64 S0.k, .string S0.n, .slice xo 0 xc, .int .i64 S0.v, .int .i64 S0.m] 27).below.size
              clear hl hA hAn hrs qr hgS hgU hlen7 hcc
              go_wp2_with (at_builtin; refine wpList_append_lies _ rfl _ _ 22 rfl w3.heap.size 27 i0 _ 5 64 Tryd.underlying22 hi0 hz0 hz1 hz2 rfl (by omega) (.slice (some ⟨gy, 0, none⟩) A yc) A _ rfl own7 ⟨_, 0, none⟩ 1 1 [.int .i64 S0.k, .string S0.n, .slice xo 0 xc, .int .i64 S0.v, .int .i64 S0.m] rfl rfl (newest (by simp)) (fun u hu => by simp only [List.mem_cons, List.not_mem_nil, or_false] at hu; rcases hu with rfl | rfl | rfl | rfl | rfl <;> rfl) (by omega) (by unfold maxLen; omega) (by omega) (by omega) _ rfl ?_; intro g1 c1' W8 hown8 hgrow8 hat8 hlt8; have qB8 := (HX7.out.2.2.2.alloc #[.int .i64 S0.k, .string S0.n, .slice xo 0 xc, .int .i64 S0.v, .int .i64 S0.m] 27).grownBy hgrow8 (fun x hx => (own7.lt x hx).1); replace hown8 := Lib.hid (And.intro hown8 qB8); clear hgrow8 hat8 hlt8 qB8 own7; go_wp2_with fail)
              go_roundw
              case rel => exact ⟨A + 1, j + 1, some ⟨g1, 0, none⟩, c1', by have := HX7.out.2.1; omega, by have := HX7.out.1; omega, rfl, by
                rw [List.replicate_succ', List.replicate_succ', ← List.append_assoc, ← List.append_assoc, flatSp_snoc _ _ _ _ HX7.out.2.2.1]
                exact hown8.out.1, hown8.out.2⟩
              case measure => show 202 - (A + 1) < 202 - A; have := HX7.out.1; have := H7.out.2.2.1; omega
            · have hjB : decide ((A : Int) < (nn : Int)) = false := decide_eq_false (by omega)
              have hjN : decide (A < nn) = false := decide_eq_false hl
              have HX7 := Lib.hid (And.intro hA (And.intro hAn (And.intro hrs qr)))
              clear hl hA hAn hrs qr
              go_wp2_with fail
              go_meet
              case rel =>
                obtain ⟨hA, hAn, hrs, qr⟩ := HX7.out
                obtain ⟨hown7, _, hnn2, hS00, hS0w, hx0, hIx⟩ := H7.out
                have hSl := HY.out.2.2.2
                have hUl := HY.out.1
                have hln : (SS ++ List.replicate j S0).length = A := by rw [List.length_append, List.length_replicate]; omega
                have hIs := sps_own (S := SS ++ List.replicate j S0) (vs := us ++ List.replicate j (Value.slice xo 0 xc)) (by rw [List.length_append, List.length_append, List.length_replicate, List.length_replicate, hUl]) hrs hln.symm (fun jj u s hu hs => by
                  by_cases hjj : jj < sn
                  · rw [List.getElem?_append_left (by omega)] at hu hs
                    exact (HY.out.2.1 jj u s hu hs).keepB qr
                  · rw [List.getElem?_append_right (by omega)] at hu hs
                    rw [List.getElem?_replicate] at hu hs
                    split at hu
                    · split at hs
                      · cases hu
                        cases hs
                        rw [hS0w]
                        exact hIx.keepB qr
                      · cases hs
                    · cases hu)
                refine ⟨SS ++ List.replicate j S0, yo, yc, by rw [hln], by rw [hln]; exact hIs, ?_, by omega, by omega, ?_, qr⟩
                · intro s hs
                  rcases List.mem_append.1 hs with hs | hs
                  · exact spsI_of HSS.out.2.2 s hs
                  · obtain rfl := List.eq_of_mem_replicate hs
                    intro p hp
                    rw [hS0w] at hp
                    cases hp
                · rw [wellsN_app, wellsN_none hS0w]
                  have := wellsN_le SS (n := 3) HS3.out
                  omega
      case rest =>
        obtain ⟨L2, uo, uc, hx21, hW2, hSI2, h21, h22, hwn, hq3⟩ := hcut
        subst hx21
        obtain ⟨ul, hul⟩ : ∃ ul, L2.length = ul := ⟨_, rfl⟩
        rw [hul] at hW2 ⊢
        have qb : B wc (wc.alloc (.cells #[.slice ro i rc, .slice so sn sc, .slice uo ul uc] 22)) := (B.refl _).alloc _ _
        have oZ := obj_new wc (.cells #[.slice ro i rc, .slice so sn sc, .slice uo ul uc] 22)
        have R0 : Rnd (wc.alloc (.cells #[.slice ro i rc, .slice so sn sc, .slice uo ul uc] 22)) (.slice ro i rc) RL := ⟨by have h := HR.out.1; rw [HRL.out] at h; exact ((h.keepB q13).keepB hq3).keepB qb, spsI_ok HR.out.2, by have := HRL.out; omega, by have := wellsN_le RL (n := 10) (fun s hs => (HM.out s hs).1); have := HRL.out; omega⟩
        have R1 : Rnd (wc.alloc (.cells #[.slice ro i rc, .slice so sn sc, .slice uo ul uc] 22)) (.slice so sn sc) SS := ⟨by have h := HY.out.2.2.1; rw [HY.out.2.2.2] at h; exact (h.keepB hq3).keepB qb, spsI_of HSS.out.2.2, by have := HSS.out.1; omega, by have := wellsN_le SS (n := 3) HS3.out; have := HSS.out.1; omega⟩
        have R2 : Rnd (wc.alloc (.cells #[.slice ro i rc, .slice so sn sc, .slice uo ul uc] 22)) (.slice uo ul uc) L2 := ⟨hW2.keepB qb, hSI2, by omega, hwn⟩
        have hz : ∀ t, t < 3 → ∃ (zo : Option Addr) (zl zc : Nat) (Z : List Sp), (wc.alloc (.cells #[.slice ro i rc, .slice so sn sc, .slice uo ul uc] 22)).cell? ⟨wc.heap.size, t, none⟩ = some (.slice zo zl zc) ∧ Z.length = zl ∧ Rnd (wc.alloc (.cells #[.slice ro i rc, .slice so sn sc, .slice uo ul uc] 22)) (.slice zo zl zc) Z := fun t ht => by
          match t, ht with
          | 0, _ => exact ⟨ro, i, rc, RL, obj_cell oZ 0, HRL.out, R0⟩
          | 1, _ => exact ⟨so, sn, sc, SS, obj_cell oZ 1, HY.out.2.2.2, R1⟩
          | 2, _ => exact ⟨uo, ul, uc, L2, obj_cell oZ 2, hul, R2⟩
        have HZ := Lib.hid (And.intro hz ((q13.trans hq3).trans qb))
        clear hz R0 R1 R2 oZ qb hul hW2 hSI2 h21 h22 hwn hq3
        go_wp2_with fail
        generalize wc.alloc (.cells #[.slice ro i rc, .slice so sn sc, .slice uo ul uc] 22) = wB at *
        generalize wc.heap.size = ZB at *
        go_loopw [193] (fun iv wr => ∃ t : Nat, t ≤ 3 ∧ iv = .int .i64 t ∧ B wB wr) (fun iv _ => 4 - (intOf iv).toNat)
        case atStart => exact ⟨0, Nat.zero_le _, rfl, B.refl _⟩
        case round =>
          obtain ⟨t, ht, rfl, qt⟩ := hrel
          obtain ⟨wt, rfl⟩ : ∃ wt : World, wt = wr := ⟨_, rfl⟩
          by_cases hl3 : t < 3
          · have hlB3 : decide ((t : Int) < (3 : Int)) = true := decide_eq_true (by omega)
            have hlN3 : decide (t < 3) = true := decide_eq_true hl3
            have hlI3 : (t : Int) < (3 : Int) := by omega
            have ht0 : (0 : Int) ≤ (t : Int) := by omega
            have wk3 : IntKind.i64.wrap ((t : Int) + 1) = (t : Int) + 1 := by rw [IntKind.wrap_i64]; omega
            obtain ⟨zo, zl, zc, Z, hzc, hzl, hRn⟩ := HZ.out.1 t hl3
            have hzc' := qt.keep hzc
            have his := hRn.is.keepB qt
            have htb := HZ.out.2.trans qt
            have cP := pprint_any (.slice zo zl zc) Z wt his hRn.int (Lib.TabBelow.here ((Lib.tabBelow_of_tabIs HT.out).on htb.below))
            have cPR := fun w' (q : B wt w') => pright_any (.slice zo zl zc) Z w' (his.keepB q) hRn.int
            have cRR := fun w' (q : B wt w') => r8stepsright_any (.slice zo zl zc) Z w' (his.keepB q)
            have cRP := fun w' (q : B wt w') => r8stepsprint_any (.slice zo zl zc) Z w' (his.keepB q)
            have hback := fun h => steps_back2 (l := Z) h (hRn.text h)
            have cH := fun w' (q : B wt w') v2 h2 => helpsteps_any v2 (.slice zo zl zc) Z w' h2 (his.keepB q)
            have htx := fun h => hRn.text h
            have HX9 := Lib.hid (And.intro hback (And.intro htx (And.intro hzl (And.intro htb (And.intro hl3 qt)))))
            clear hback htx htb hl3 qt ht his hRn hzl hzc
            generalize stepsT Z = TX at *
            generalize stepsOk Z = OK at *
            go_wp2_with fail
            refine cP.mono ?_
            rintro _ wP ⟨rfl, qP⟩
            have c1 := cPR _ qP
            clear cP cPR
            go_wp2_with fail
            refine c1.mono ?_
            rintro _ wQ ⟨rfl, qQ⟩
            have qPQ := qP.trans qQ
            have c2 := cRR _ qPQ
            clear c1 qP qQ
            go_wp2_with fail
            refine c2.mono ?_
            rintro _ wR ⟨rfl, qR⟩
            have qPR := qPQ.trans qR.b
            have c3 := cRP _ qPR
            have c4 := cRR
            clear c2 cRP cRR qPQ qR
            have HXR := Lib.hid qPR
            cases OK
            · go_wp2_with fail
              refine c3.mono ?_
              rintro _ wS ⟨rfl, qS⟩
              have qPS := HXR.out.trans qS
              have c5 := c4 _ qPS
              clear c3 c4 qS
              go_wp2_with fail
              refine c5.mono ?_
              rintro _ wU ⟨rfl, qU⟩
              have HU := Lib.hid (qPS.trans qU.b)
              clear c5 qPS qU
              go_wp2_with fail
              exact ⟨⟨t + 1, by have := HX9.out.2.2.2.2.1; omega, by go_num, HX9.out.2.2.2.2.2.trans HU.out⟩, by have := HX9.out.2.2.2.2.1; simp [intOf]; omega⟩
            · go_wp2_with fail
              refine c3.mono ?_
              rintro _ wS ⟨rfl, qS⟩
              have qPS := HXR.out.trans qS
              have c5 := c4 _ qPS
              clear c3 c4 qS
              go_wp2_with fail
              refine c5.mono ?_
              rintro _ wU ⟨rfl, qU⟩
              have qPU := qPS.trans qU.b
              clear c5 qPS qU
              have hlen := HX9.out.2.1 trivial
              obtain ⟨LL, s1, s2, s3, s4, s5, s6, s7⟩ := HX9.out.1 trivial
              have hcv := Lib.run_convert_string_bytes (P := Tryd.prog) wU 9 43 5 (strB TX) Tryd.underlying9 Tryd.underlying43 Tryd.underlying5
              have IB := isB_conv wU 5 TX (by omega)
              have b3 := qPU.trans (conv_b wU 5 (strB TX))
              simp only [strB_size] at hcv IB
              generalize grownCap wU TX.length 0 5 = cap9 at *
              generalize Lib.bytesWorld wU 5 (strB TX) = wV at *
              generalize wU.heap.size = NV at *
              have cL := r8lines_any _ _ _ _ TX wV IB
              unfold LinesRes at cL
              rw [s1] at cL
              simp only at cL
              have HSB := Lib.hid (And.intro s2 (And.intro s3 (And.intro s4 (And.intro s5 (And.intro s6 (And.intro s7 b3))))))
              clear s1 s2 s3 s4 s5 s6 s7 hlen qPU b3
              go_wp2_with fail
              refine cL.mono ?_
              rintro _ w6 ⟨v6, rfl, hv6, q6⟩
              have c6 := words12_any v6 LL w6 hv6.lnO HSB.out.2.1 HSB.out.2.2.2.1 HSB.out.2.2.2.2.1
              have HV6 := Lib.hid (HSB.out.2.2.2.2.2.2.trans q6)
              clear cL hcv IB q6
              obtain ⟨v6o, v6c, rfl⟩ := hv6.lnO.form
              clear hv6
              go_wp2_with fail
              refine c6.mono ?_
              rintro _ w7 ⟨u7, vs7, rfl, hO7, q7⟩
              have c7 := pparse_any u7 LL w7 hO7.is.lnO HSB.out.2.2.2.1 HSB.out.2.2.2.2.1 HSB.out.2.2.2.2.2.1
              unfold ProtoRes at c7
              rw [HSB.out.1] at c7
              have HV7 := Lib.hid (HV6.out.trans q7)
              obtain ⟨u7o, u7c, rfl⟩ := hO7.is.lnO.form
              clear c6 hO7 q7
              go_wp2_with fail
              refine c7.mono ?_
              rintro _ w8 h8
              rcases h8 with ⟨S8, sv8, ov8, e1, rfl, hS8, hP8, q8⟩ | ⟨p8, n8, e1, _⟩
              case inr => cases e1
              cases e1
              have HV8 := Lib.hid (HV7.out.trans q8)
              have c8 := cH _ HV8.out sv8 hS8
              clear c7 cH q8
              have hlo8 : (placesP LL).length = zl := (placesP_full HSB.out.2.1).trans (HSB.out.2.2.1.trans HX9.out.2.2.1)
              obtain ⟨oo8, oc8, rfl⟩ : ∃ ao cap, ov8 = .slice ao zl cap := by
                obtain ⟨ao, cap, h⟩ := hP8.form
                exact ⟨ao, cap, by rw [h, hlo8]⟩
              obtain ⟨so8, sc8, rfl⟩ := hS8.form
              clear hP8 hS8
              go_wp2_with fail
              refine c8.mono ?_
              rintro _ w9 ⟨rfl, q9⟩
              have HV9 := Lib.hid (HV8.out.trans q9.b)
              clear c8 q9
              go_wp2_with fail
              exact ⟨⟨t + 1, by have := HX9.out.2.2.2.2.1; omega, by go_num, HX9.out.2.2.2.2.2.trans HV9.out⟩, by have := HX9.out.2.2.2.2.1; simp [intOf]; omega⟩
          · have hlB3 : decide ((t : Int) < (3 : Int)) = false := decide_eq_false (by omega)
            have hlN3 : decide (t < 3) = false := decide_eq_false hl3
            have HF := Lib.hid (HZ.out.2.trans qt)
            clear qt ht hl3
            go_wp2
            go_ret
            exact ⟨rfl, HF.out⟩
end Go.Proofs.YtnmcgleanpdlmaaDoor
