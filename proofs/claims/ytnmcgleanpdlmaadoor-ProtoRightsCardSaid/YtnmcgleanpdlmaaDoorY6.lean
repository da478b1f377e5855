/-
  Contract of the document's text of steps.
-/
import Derived.Test.YtnmcgleanpdlmaaDoorY1
import Derived.Test.YtnmcgleanpdlmaaDoorY2
import Derived.Test.YtnmcgleanpdlmaaDoorY3
import Derived.Test.YtnmcgleanpdlmaaDoorY4
import Derived.Test.YtnmcgleanpdlmaaDoorY5
namespace Go.Proofs.YtnmcgleanpdlmaaDoor
open Go.RowKit
set_option linter.unusedVariables false
theorem wellsT_len : ∀ l : List Wp, (wellsT l).length ≤ 51 * l.length
  | [] => by simp [wellsT]
  | p :: l => by
    have h := wellsT_len l
    have h2 := wellT_len9 p.n p.r p.c
    show (32 :: p.t ++ wellsT l).length ≤ _
    rw [List.length_append, List.length_cons, List.length_cons]
    have : p.t.length ≤ 50 := h2
    omega
theorem lineT_words : ∀ (w : List UInt8) (ws : List (List UInt8)), lineT (w :: ws) = w ++ (ws.flatMap fun x => 32 :: x) ++ [10]
  | w, [] => by simp [lineT]
  | w, x :: ws => by
    have h := lineT_words x ws
    show w ++ 32 :: lineT (x :: ws) = _
    rw [h]
    simp
theorem wellsT_map (l : List Wp) : ((l.map Wp.t).flatMap fun x => 32 :: x) = wellsT l := by
  unfold wellsT
  rw [List.flatMap_map]
theorem sl_0 (n : ByteArray) (L : List Wp) (v m : Int) : lineT (stepL ⟨0, n, L, v, m⟩) = kindW 0 ++ [32] ++ n.data.toList ++ [10] := by
  rw [stepL, lineT_words]; simp [stepW]
theorem sl_1a (n : ByteArray) (L : List Wp) (v : Int) : lineT (stepL ⟨1, n, L, v, 0⟩) = kindW 1 ++ [32, 111, 110, 99, 101] ++ [10] := by
  rw [stepL, lineT_words]; simp [stepW, kOnce]
theorem sl_1b (n : ByteArray) (L : List Wp) (v : Int) : lineT (stepL ⟨1, n, L, v, 1⟩) = kindW 1 ++ [32, 101, 97, 99, 104] ++ [10] := by
  rw [stepL, lineT_words]; simp [stepW, kEach]
theorem sl_6 (n : ByteArray) (L : List Wp) (v m : Int) : lineT (stepL ⟨6, n, L, v, m⟩) = kindW 6 ++ [32] ++ decI v ++ wellsT L ++ [10] := by
  rw [stepL, lineT_words]; simp [stepW, wellsT, List.flatMap_map]
theorem sl_2 (n : ByteArray) (L : List Wp) (v m : Int) : lineT (stepL ⟨2, n, L, v, m⟩) = kindW 2 ++ wellsT L ++ [32] ++ decI v ++ [10] := by
  rw [stepL, lineT_words]; simp [stepW, wellsT, List.flatMap_map]
theorem sl_5 (n : ByteArray) (L : List Wp) (v m : Int) : lineT (stepL ⟨5, n, L, v, m⟩) = kindW 5 ++ wellsT L ++ [32] ++ decI v ++ [32] ++ decI m ++ [10] := by
  rw [stepL, lineT_words]; simp [stepW, wellsT, List.flatMap_map]
theorem sl_34 {k : Int} (hk : k = 3 ∨ k = 4) (n : ByteArray) (L : List Wp) (v m : Int) : lineT (stepL ⟨k, n, L, v, m⟩) = kindW k ++ wellsT (L.take 1) ++ [32] ++ decI v ++ wellsT (L.drop 1) ++ [10] := by
  have e : stepW ⟨k, n, L, v, m⟩ = (L.take 1).map Wp.t ++ [decI v] ++ (L.drop 1).map Wp.t := by rcases hk with rfl | rfl <;> rfl
  rw [stepL, lineT_words, e, List.flatMap_append, List.flatMap_append, wellsT_map, wellsT_map]
  simp
theorem inB_of {x a b : Int} (h : inB x a b = true) : a ≤ x ∧ x ≤ b := by
  unfold inB at h
  simp only [Bool.and_eq_true, decide_eq_true_eq] at h
  omega
theorem wps_take1 {w : World} {a : Addr} {n cap : Nat} {L : List Wp} (h : IsWps w (.slice (some a) n cap) L) (hl : 1 ≤ L.length) : IsWps w (.slice (some a) 1 cap) (L.take 1) := by
  rcases h with ⟨h, _⟩ | ⟨b, c, h1, h2, h3, h4⟩
  · cases h
  · simp only [Value.slice.injEq, Option.some.injEq] at h1
    obtain ⟨rfl, rfl, rfl⟩ := h1
    refine .inr ⟨a, cap, by rw [List.length_take, Nat.min_eq_left hl], by rw [List.length_take]; omega, h3, fun i f hf => ?_⟩
    have hi : i < 1 := by
      have := (List.getElem?_eq_some_iff.1 hf).1
      rw [List.length_take] at this
      omega
    rw [List.getElem?_take_of_lt hi] at hf
    exact h4 i f hf
theorem wps_drop1 {w : World} {a : Addr} {n cap : Nat} {L : List Wp} (h : IsWps w (.slice (some a) n cap) L) (hl : 1 ≤ L.length) : IsWps w (.slice (some ⟨a.block, a.off + 3, none⟩) (L.length - 1) (cap - 1)) (L.drop 1) := by
  rcases h with ⟨h, _⟩ | ⟨b, c, h1, h2, h3, h4⟩
  · cases h
  · simp only [Value.slice.injEq, Option.some.injEq] at h1
    obtain ⟨rfl, rfl, rfl⟩ := h1
    refine .inr ⟨⟨a.block, a.off + 3, none⟩, cap - 1, by rw [List.length_drop], by rw [List.length_drop]; omega, by omega, fun i f hf => ?_⟩
    rw [List.getElem?_drop] at hf
    have := h4 (1 + i) f hf
    rw [show (⟨a.block, a.off + 3, none⟩ : Addr).add (i * 3) = a.add ((1 + i) * 3) by
      unfold Addr.add
      rw [if_neg (by omega : ¬ (1 + i) * 3 = 0)]
      split
      · simp only [Addr.mk.injEq, and_true, true_and]; omega
      · simp only [Addr.mk.injEq, and_true, true_and]; omega]
    exact this
set_option maxRecDepth 100000 in
set_option maxHeartbeats 6000000 in
theorem r8stepsprint_any (v : Value) (L : List Sp) (w : World) (h : IsSps w v L) : Calls Tryd.prog 10 #[v] w fun e w' => e = .returned (.string (strB (stepsT L))) ∧ B w w' := by
  have cR := r8stepsright_any v L w h
  obtain ⟨ao, ac, rfl⟩ := h.form
  have hlen := h.len
  go_enter Tryd.func10, Tryd.ntmps10
  go_wp2_with fail
  refine cR.mono ?_
  clear cR
  rintro _ W ⟨rfl, q0⟩
  replace h := h.keepB q0.b
  obtain ⟨OK, hOK⟩ : ∃ OK, stepsOk L = OK := ⟨_, rfl⟩
  rw [hOK]
  cases OK
  · have hE : Hid (strB (stepsT L) = ⟨#[]⟩) := Lib.hid (by unfold stepsT; rw [hOK]; rfl)
    clear hOK
    go_wp2
    go_ret
    exact ⟨by rw [hE.out]; rfl, q0.b⟩
  have hE : Hid (strB (stepsT L) = strB (L.flatMap fun s => lineT (stepL s))) := Lib.hid (by unfold stepsT; rw [hOK, if_pos rfl])
  have hall : (∀ s ∈ L, stepOk s = true) ∧ L.length ≤ 200 := by
    unfold stepsOk at hOK
    simp only [Bool.and_eq_true, decide_eq_true_eq, List.all_eq_true] at hOK
    exact ⟨hOK.2, hOK.1⟩
  clear hOK
  go_wp2_with fail
  go_loopw [3, 4] (fun sv iv wr => ∃ (i : Nat) (S0 : ByteArray), i ≤ L.length ∧ iv = .int .i64 i ∧ sv = .string S0 ∧ S0 = strB ((L.take i).flatMap fun s => lineT (stepL s)) ∧ S0.size ≤ 6000 * i ∧ B W wr) (fun _ iv _ => L.length + 1 - (intOf iv).toNat)
  case atStart => exact ⟨0, _, Nat.zero_le _, rfl, rfl, rfl, by decide, B.refl _⟩
  case round =>
    obtain ⟨i, S0, hi, rfl, rfl, hS, hz0, hB⟩ := hrel
    obtain ⟨wo, rfl⟩ : ∃ wo : World, wo = wr := ⟨_, rfl⟩
    by_cases hl : i < L.length
    · have hlB : decide ((i : Int) < (L.length : Int)) = true := decide_eq_true (by omega)
      have hlN : decide (i < L.length) = true := decide_eq_true hl
      have hlI : (i : Int) < (L.length : Int) := by omega
      have hi0 : (0 : Int) ≤ (i : Int) := by omega
      have wk1 : IntKind.i64.wrap ((i : Int) + 1) = (i : Int) + 1 := by rw [IntKind.wrap_i64]; omega
      obtain ⟨a, cap, e1, _, _, hr⟩ := (h.keepB hB).at_ hl
      obtain ⟨rfl, _, rfl⟩ : ao = some a ∧ True ∧ ac = cap := by simpa using e1
      obtain ⟨F, hF⟩ : ∃ F, L[i]? = some F := ⟨_, List.getElem?_eq_getElem hl⟩
      have hFe : L[i] = F := by rw [List.getElem?_eq_getElem hl] at hF; simpa using hF
      rw [hFe] at hr
      have hok := hall.1 F (List.mem_of_getElem? hF)
      obtain ⟨K, N, WS, V, M⟩ := F
      obtain ⟨g0, g1, ⟨sv, g2, g5⟩, g3, g4⟩ := hr
      simp only at g0 g1 g2 g3 g4 g5
      obtain ⟨so, sc, rfl⟩ := g5.form
      have hK : 0 ≤ K ∧ K ≤ 6 := by
        unfold stepOk stepK at hok
        simp only [Bool.and_eq_true] at hok
        have h2 := hok.2
        by_cases k0 : K = 0
        · omega
        · by_cases k1 : K = 1
          · omega
          · by_cases k5 : K = 5
            · omega
            · by_cases kk : K = 2 ∨ K = 3 ∨ K = 4 ∨ K = 6
              · omega
              · simp only [k0, k1, k5, kk, if_false] at h2
                cases h2
      obtain ⟨W1, hW1⟩ : ∃ W1, wo.alloc (.cells #[.int .i64 K, .string N, .slice so WS.length sc, .int .i64 V, .int .i64 M] 27) = W1 := ⟨_, rfl⟩
      have oS := obj_new wo (.cells #[.int .i64 K, .string N, .slice so WS.length sc, .int .i64 V, .int .i64 M] 27)
      have q1 := (B.refl wo).alloc #[.int .i64 K, .string N, .slice so WS.length sc, .int .i64 V, .int .i64 M] 27
      rw [hW1] at oS q1
      have hKI : ((K.toNat : Nat) : Int) = K := by omega
      obtain ⟨k, hk⟩ : ∃ k : Nat, K.toNat = k := ⟨_, rfl⟩
      have hk7 : (k : Int) < 7 := by omega
      have hk0 : (0 : Int) ≤ (k : Int) := by omega
      obtain rfl : K = (k : Int) := by omega
      have cNm : ∀ w, Calls Tryd.prog 28 #[] w fun e w' => ∃ b, e = .returned (.slice (some ⟨b, 0, none⟩) 7 7) ∧ B w w' ∧ w.heap.size ≤ b ∧ w'.cell? ⟨b, k, none⟩ = some (.string (strB (kindW (k : Int)))) := fun w => (r8names_any w).mono (by
        rintro e w' ⟨b, h1, h2, h3, h4⟩
        refine ⟨b, h1, h2.b, h3, ?_⟩
        have := h4 (k : Int) (by omega) (by omega)
        rwa [Int.toNat_natCast] at this)
      have hkz : (strB (kindW (k : Int))).size ≤ 8 := by
        have : k = 0 ∨ k = 1 ∨ k = 2 ∨ k = 3 ∨ k = 4 ∨ k = 5 ∨ k = 6 := by omega
        rcases this with rfl | rfl | rfl | rfl | rfl | rfl | rfl <;> decide
      obtain ⟨KW, hKW⟩ : ∃ KW, strB (kindW (k : Int)) = KW := ⟨_, rfl⟩
      rw [hKW] at hkz
      simp only [hKW] at cNm
      have HKW := Lib.hid hKW
      clear hKW
      have hi200 : i ≤ 200 := by have := hall.2; omega
      have zz0 : S0.size ≤ 1200000 := by omega
      obtain ⟨s1, j1⟩ : ∃ x, S0 ++ KW = x := ⟨_, rfl⟩
      have n1 : ¬ 9223372036854775807 < S0.size + KW.size := by omega
      have z1 : s1.size ≤ S0.size + 8 := by rw [← j1, ByteArray.size_append]; omega
      have HS := Lib.hid (And.intro hS (And.intro hz0 (And.intro hok (And.intro hl (And.intro hB g5)))))
      have hT1 := take_flat (f := fun s => lineT (stepL s)) hF
      replace hT1 := Lib.hid hT1
      clear hKI hk e1 hF hFe hS hz0 hok hl hB
      go_wp2_with fail
      try rw [hW1]
      generalize wo.heap.size = G at *
      have k0 : W1.cell? ⟨G, 0, none⟩ = some (.int .i64 (k : Int)) := obj_cell oS 0
      have k0' : ∀ w', B W1 w' → w'.cell? ⟨G, 0, none⟩ = some (.int .i64 (k : Int)) := fun w' q => q.keep k0
      have k0d : W1.drew.cell? ⟨G, 0, none⟩ = some (.int .i64 (k : Int)) := k0
      go_region_with (go_at_call 28; with_reducible refine (cNm _).mono ?_; rintro _ w5 ⟨b, rfl, q5, hb, hc⟩; have k05 := k0' _ ((B.refl W1).drew.trans q5))
      all_goals
        have q15 : B W1 w5 := (B.refl W1).drew.trans q5
        have oS5 := q15.obj oS
        have b0 : w5.cell? ⟨G, 0, none⟩ = some (.int .i64 (k : Int)) := obj_cell oS5 0
        have b1 : w5.cell? ⟨G, 1, none⟩ = some (.string N) := obj_cell oS5 1
        have b2 : w5.cell? ⟨G, 2, none⟩ = some (.slice so WS.length sc) := obj_cell oS5 2
        have b3 : w5.cell? ⟨G, 3, none⟩ = some (.int .i64 V) := obj_cell oS5 3
        have b4 : w5.cell? ⟨G, 4, none⟩ = some (.int .i64 M) := obj_cell oS5 4
        clear k0 k0' k0d k05 hb hc oS
        generalize (k : Int) = kk at *
        have hk8 : kk = 0 ∨ kk = 1 ∨ kk = 2 ∨ kk = 3 ∨ kk = 4 ∨ kk = 5 ∨ kk = 6 := by omega
        rcases hk8 with rfl | rfl | rfl | rfl | rfl | rfl | rfl
        · have hok := HS.out.2.2.1
          unfold stepOk at hok
          rw [stepK_0] at hok
          simp only [Bool.and_eq_true, decide_eq_true_eq] at hok
          have hN16 : N.size ≤ 16 := by
            have h16 := hok.2.1.1.1
            unfold nameS at h16
            exact of_decide_eq_true (Bool.and_eq_true_iff.1 (Bool.and_eq_true_iff.1 (Bool.and_eq_true_iff.1 h16).1).1).2
          clear hok
          obtain ⟨s2, j2⟩ : ∃ x, s1 ++ ({ data := #[32] } : ByteArray) = x := ⟨_, rfl⟩
          have n2 : ¬ 9223372036854775807 < s1.size + 1 := by omega
          have m2 : ¬ 9223372036854775807 < s1.size + ({ data := #[32] } : ByteArray).size := n2
          have z2 : s2.size ≤ S0.size + 9 := by rw [← j2, ByteArray.size_append]; show s1.size + 1 ≤ _; omega
          obtain ⟨s3, j3⟩ : ∃ x, s2 ++ N = x := ⟨_, rfl⟩
          have n3 : ¬ 9223372036854775807 < s2.size + N.size := by omega
          have z3 : s3.size ≤ S0.size + 25 := by rw [← j3, ByteArray.size_append]; omega
          obtain ⟨s4, j4⟩ : ∃ x, s3 ++ ({ data := #[10] } : ByteArray) = x := ⟨_, rfl⟩
          have n4 : ¬ 9223372036854775807 < s3.size + 1 := by omega
          have m4 : ¬ 9223372036854775807 < s3.size + ({ data := #[10] } : ByteArray).size := n4
          have z4 : s4.size ≤ S0.size + 26 := by rw [← j4, ByteArray.size_append]; show s3.size + 1 ≤ _; omega
          have HE : Hid (s4 = strB ((L.take i).flatMap (fun s => lineT (stepL s)) ++ lineT (stepL ⟨0, N, WS, V, M⟩))) := Lib.hid (by
            rw [sl_0, ← j4, ← j3, ← j2, ← j1, HS.out.1, ← HKW.out, show ({ data := #[32] } : ByteArray) = strB [32] from rfl, show ({ data := #[10] } : ByteArray) = strB [10] from rfl, show N = strB N.data.toList from rfl]
            simp only [strB_app, List.append_assoc]
            rfl)
          have HZ := Lib.hid z4
          have HB := Lib.hid q15
          clear q5 q15 oS5 cNm
          go_wp2
          go_roundw
          case rel =>
            obtain ⟨hS, hz0, hok, hl, hB, g5⟩ := HS.out
            exact ⟨i + 1, s4, by omega, by go_num, rfl, by rw [hT1.out]; exact HE.out, by have := HZ.out; omega, (hB.trans q1).trans HB.out⟩
          case measure => have := HS.out.2.2.2.1; simp [intOf]; omega
        · have hok := HS.out.2.2.1
          unfold stepOk at hok
          rw [stepK_1] at hok
          simp only [Bool.and_eq_true, Bool.or_eq_true, decide_eq_true_eq] at hok
          rcases hok.2.2 with rfl | rfl
          · clear hok
            obtain ⟨s2, j2⟩ : ∃ x, s1 ++ ({ data := #[32, 111, 110, 99, 101] } : ByteArray) = x := ⟨_, rfl⟩
            have n2 : ¬ 9223372036854775807 < s1.size + 5 := by omega
            have m2 : ¬ 9223372036854775807 < s1.size + ({ data := #[32, 111, 110, 99, 101] } : ByteArray).size := n2
            have z2 : s2.size ≤ S0.size + 13 := by rw [← j2, ByteArray.size_append]; show s1.size + 5 ≤ _; omega
            obtain ⟨s3, j3⟩ : ∃ x, s2 ++ ({ data := #[10] } : ByteArray) = x := ⟨_, rfl⟩
            have n3 : ¬ 9223372036854775807 < s2.size + 1 := by omega
            have m3 : ¬ 9223372036854775807 < s2.size + ({ data := #[10] } : ByteArray).size := n3
            have z3 : s3.size ≤ S0.size + 14 := by rw [← j3, ByteArray.size_append]; show s2.size + 1 ≤ _; omega
            have HE : Hid (s3 = strB ((L.take i).flatMap (fun s => lineT (stepL s)) ++ lineT (stepL ⟨1, N, WS, V, 0⟩))) := Lib.hid (by
              rw [sl_1a, ← j3, ← j2, ← j1, HS.out.1, ← HKW.out, show ({ data := #[10] } : ByteArray) = strB [10] from rfl, show ({ data := #[32, 111, 110, 99, 101] } : ByteArray) = strB [32, 111, 110, 99, 101] from rfl]
              simp only [strB_app, List.append_assoc])
            have HZ := Lib.hid z3
            have HB := Lib.hid (q15.alloc #[.string ⟨#[32, 111, 110, 99, 101]⟩, .string ⟨#[32, 101, 97, 99, 104]⟩] 9)
            clear q5 cNm
            have oS6 := ((B.refl w5).alloc #[.string ⟨#[32, 111, 110, 99, 101]⟩, .string ⟨#[32, 101, 97, 99, 104]⟩] 9).obj oS5
            have b46 := obj_cell oS6 4
            clear q15
            go_wp2
            go_roundw
            case rel =>
              obtain ⟨hS, hz0, hok, hl, hB, g5⟩ := HS.out
              exact ⟨i + 1, s3, by omega, by go_num, rfl, by rw [hT1.out]; exact HE.out, by have := HZ.out; omega, (hB.trans q1).trans HB.out⟩
            case measure => have := HS.out.2.2.2.1; simp [intOf]; omega
          · clear hok
            obtain ⟨s2, j2⟩ : ∃ x, s1 ++ ({ data := #[32, 101, 97, 99, 104] } : ByteArray) = x := ⟨_, rfl⟩
            have n2 : ¬ 9223372036854775807 < s1.size + 5 := by omega
            have m2 : ¬ 9223372036854775807 < s1.size + ({ data := #[32, 101, 97, 99, 104] } : ByteArray).size := n2
            have z2 : s2.size ≤ S0.size + 13 := by rw [← j2, ByteArray.size_append]; show s1.size + 5 ≤ _; omega
            obtain ⟨s3, j3⟩ : ∃ x, s2 ++ ({ data := #[10] } : ByteArray) = x := ⟨_, rfl⟩
            have n3 : ¬ 9223372036854775807 < s2.size + 1 := by omega
            have m3 : ¬ 9223372036854775807 < s2.size + ({ data := #[10] } : ByteArray).size := n3
            have z3 : s3.size ≤ S0.size + 14 := by rw [← j3, ByteArray.size_append]; show s2.size + 1 ≤ _; omega
            have HE : Hid (s3 = strB ((L.take i).flatMap (fun s => lineT (stepL s)) ++ lineT (stepL ⟨1, N, WS, V, 1⟩))) := Lib.hid (by
              rw [sl_1b, ← j3, ← j2, ← j1, HS.out.1, ← HKW.out, show ({ data := #[32, 101, 97, 99, 104] } : ByteArray) = strB [32, 101, 97, 99, 104] from rfl, show ({ data := #[10] } : ByteArray) = strB [10] from rfl]
              simp only [strB_app, List.append_assoc])
            have HZ := Lib.hid z3
            have HB := Lib.hid (q15.alloc #[.string ⟨#[32, 111, 110, 99, 101]⟩, .string ⟨#[32, 101, 97, 99, 104]⟩] 9)
            clear q5 cNm
            have oS6 := ((B.refl w5).alloc #[.string ⟨#[32, 111, 110, 99, 101]⟩, .string ⟨#[32, 101, 97, 99, 104]⟩] 9).obj oS5
            have b46 := obj_cell oS6 4
            clear q15
            go_wp2
            go_roundw
            case rel =>
              obtain ⟨hS, hz0, hok, hl, hB, g5⟩ := HS.out
              exact ⟨i + 1, s3, by omega, by go_num, rfl, by rw [hT1.out]; exact HE.out, by have := HZ.out; omega, (hB.trans q1).trans HB.out⟩
            case measure => have := HS.out.2.2.2.1; simp [intOf]; omega
        · have hok := HS.out.2.2.1
          unfold stepOk at hok
          rw [stepK_2] at hok
          simp only [Bool.and_eq_true, decide_eq_true_eq] at hok
          obtain ⟨hV1, hV2⟩ := inB_of hok.2.1.1.1.2
          have hW96 := hok.2.1.2
          clear hok
          obtain ⟨vn, rfl⟩ := Int.eq_ofNat_of_zero_le (by omega : 0 ≤ V)
          have cV := fun w => r8dec_any vn vn (Nat.le_refl _) (by omega) w
          have dz := decS_size (n := vn) (by omega)
          have de := decS_strB vn
          obtain ⟨DV, hDV⟩ : ∃ x, decS vn = x := ⟨_, rfl⟩
          rw [hDV] at cV dz de
          clear hDV
          replace de := Lib.hid de
          have cW : ∀ w, B w5 w → Calls Tryd.prog 30 #[.slice so WS.length sc] w fun e w' => e = .returned (.string (strB (wellsT WS))) ∧ B w w' := fun w q => (r8wells_any _ WS w ((((HS.out.2.2.2.2.2).keepB q1).keepB q15).keepB q) (by omega)).mono fun e w' h => ⟨h.1, h.2.b⟩
          have wz : (strB (wellsT WS)).size ≤ 51 * 96 := by have := wellsT_len WS; rw [strB_size]; omega
          obtain ⟨WT, hWT⟩ : ∃ x, strB (wellsT WS) = x := ⟨_, rfl⟩
          rw [hWT] at wz
          simp only [hWT] at cW
          obtain ⟨s2, j2⟩ : ∃ x, s1 ++ WT = x := ⟨_, rfl⟩
          have n2 : ¬ 9223372036854775807 < s1.size + WT.size := by omega
          have z2 : s2.size ≤ S0.size + 4904 := by rw [← j2, ByteArray.size_append]; omega
          obtain ⟨s3, j3⟩ : ∃ x, s2 ++ ({ data := #[32] } : ByteArray) = x := ⟨_, rfl⟩
          have n3 : ¬ 9223372036854775807 < s2.size + 1 := by omega
          have m3 : ¬ 9223372036854775807 < s2.size + ({ data := #[32] } : ByteArray).size := n3
          have z3 : s3.size ≤ S0.size + 4905 := by rw [← j3, ByteArray.size_append]; show s2.size + 1 ≤ _; omega
          obtain ⟨s4, j4⟩ : ∃ x, s3 ++ DV = x := ⟨_, rfl⟩
          have n4 : ¬ 9223372036854775807 < s3.size + DV.size := by omega
          have z4 : s4.size ≤ S0.size + 4925 := by rw [← j4, ByteArray.size_append]; omega
          obtain ⟨s5, j5⟩ : ∃ x, s4 ++ ({ data := #[10] } : ByteArray) = x := ⟨_, rfl⟩
          have n5 : ¬ 9223372036854775807 < s4.size + 1 := by omega
          have m5 : ¬ 9223372036854775807 < s4.size + ({ data := #[10] } : ByteArray).size := n5
          have z5 : s5.size ≤ S0.size + 4926 := by rw [← j5, ByteArray.size_append]; show s4.size + 1 ≤ _; omega
          have HE : Hid (s5 = strB ((L.take i).flatMap (fun s => lineT (stepL s)) ++ lineT (stepL ⟨2, N, WS, (vn : Int), M⟩))) := Lib.hid (by
            rw [sl_2, ← j5, ← j4, ← j3, ← j2, ← j1, HS.out.1, ← HKW.out, show ({ data := #[32] } : ByteArray) = strB [32] from rfl, show ({ data := #[10] } : ByteArray) = strB [10] from rfl, de.out, ← hWT]
            simp only [strB_app, List.append_assoc])
          have HZ := Lib.hid z5
          have HX := Lib.hid q15
          clear q5 oS5 cNm
          go_wp2_with fail
          refine wp_region_noPanic ?_
          refine wp_region_seq (S := fun w' => w'.cell? ⟨G, 1, none⟩ = some (.string N) ∧ w'.cell? ⟨G, 2, none⟩ = some (.slice so WS.length sc) ∧ w'.cell? ⟨G, 3, none⟩ = some (.int .i64 (vn : Int)) ∧ w'.cell? ⟨G, 4, none⟩ = some (.int .i64 M) ∧ B w5 w') [(0, 0), (1, 0), (2, 0), (6, 0), (7, 0), (3, 2), (4, 0), (5, 0), (8, 2), (9, 0), (10, 0)] [0, 0, 2, 4, 9, 16, 0, 64, 136, 288, 1023] [0, 0, 2, 4, 9, 16, 0, 64, 128, 288, 513] (by kernel_rfl) (by kernel_rfl) (fun _ _ _ _ _ h => h) ?_ (fun hH => ?_)
          · exact ⟨b1, b2, b3, b4, (B.refl w5).drew⟩
          refine wpSeq_take (d := 74) (v := ?_) rfl rfl (by kernel_rfl) (fun w hS => ?_) ?_
          rotate_left
          · go_simp <;> with_reducible rfl
          dsimp only [List.set_cons_zero, List.set_cons_succ]
          refine wpSeq_take (d := 75) (v := ?_) rfl rfl (by kernel_rfl) (fun w hS => ?_) ?_
          rotate_left
          · go_simp <;> with_reducible rfl
          dsimp only [List.set_cons_zero, List.set_cons_succ]
          refine wpSeq_take (d := 76) (v := ?_) rfl rfl (by kernel_rfl) (fun w hS => ?_) ?_
          rotate_left
          · go_simp <;> with_reducible rfl
          dsimp only [List.set_cons_zero, List.set_cons_succ]
          refine wpSeq_take (d := 80) (v := ?_) rfl rfl (by kernel_rfl) (fun w hS => ?_) ?_
          rotate_left
          · go_simp <;> with_reducible rfl
          dsimp only [List.set_cons_zero, List.set_cons_succ]
          refine wpSeq_take (d := 81) (v := ?_) rfl rfl (by kernel_rfl) (fun w hS => ?_) ?_
          rotate_left
          · go_simp <;> with_reducible rfl
          dsimp only [List.set_cons_zero, List.set_cons_succ]
          refine wpSeq_call rfl (by kernel_rfl) (fun K hK => ?_)
          go_simp
          (with_reducible refine (cW _ hH.2.2.2.2).mono ?_)
          rintro e w' ⟨rfl, hq⟩
          refine hK.out _ _ ?_ (fun hH => ?_)
          · exact ⟨hq.keep (hH.1), hq.keep (hH.2.1), hq.keep (hH.2.2.1), hq.keep (hH.2.2.2.1), (hH.2.2.2.2).trans hq⟩
          clear hK
          refine wpSeq_take (d := 78) (v := ?_) rfl rfl (by kernel_rfl) (fun w hS => ?_) ?_
          rotate_left
          · go_simp <;> with_reducible rfl
          dsimp only [List.set_cons_zero, List.set_cons_succ]
          refine wpSeq_take (d := 79) (v := ?_) rfl rfl (by kernel_rfl) (fun w hS => ?_) ?_
          rotate_left
          · go_simp <;> with_reducible rfl
          dsimp only [List.set_cons_zero, List.set_cons_succ]
          refine wpSeq_call rfl (by kernel_rfl) (fun K hK => ?_)
          go_simp
          (with_reducible refine (cV _).mono ?_)
          rintro e w' ⟨rfl, rfl⟩
          refine hK.out _ _ hH (fun hH => ?_)
          clear hK
          refine wpSeq_take (d := 83) (v := ?_) rfl rfl (by kernel_rfl) (fun w hS => ?_) ?_
          rotate_left
          · go_simp <;> with_reducible rfl
          dsimp only [List.set_cons_zero, List.set_cons_succ]
          refine wpSeq_take (d := 3) (v := ?_) rfl rfl (by kernel_rfl) (fun w hS => ?_) ?_
          rotate_left
          · go_simp <;> with_reducible rfl
          dsimp only [List.set_cons_zero, List.set_cons_succ]
          refine wpSeq_done ?_
          refine NoPanic.normal ?_
          have HB := Lib.hid (q15.trans hH.2.2.2.2)
          clear hH b0 b1 b2 b3 b4 q15
          go_wp2
          go_roundw
          case rel =>
            obtain ⟨hS, hz0, hok, hl, hB, g5⟩ := HS.out
            exact ⟨i + 1, s5, by omega, by go_num, rfl, by rw [hT1.out]; exact HE.out, by have := HZ.out; omega, (hB.trans q1).trans HB.out⟩
          case measure => have := HS.out.2.2.2.1; simp [intOf]; omega
        · have hok := HS.out.2.2.1
          unfold stepOk at hok
          rw [stepK_3] at hok
          simp only [Bool.and_eq_true, decide_eq_true_eq] at hok
          obtain ⟨hV1, hV2⟩ := inB_of hok.2.1.1.2
          have hW2 := hok.2.1.2
          have hW96 := hok.2.2
          clear hok
          obtain ⟨vn, rfl⟩ := Int.eq_ofNat_of_zero_le (by omega : 0 ≤ V)
          have cV := fun w => r8dec_any vn vn (Nat.le_refl _) (by omega) w
          have dz := decS_size (n := vn) (by omega)
          have de := decS_strB vn
          obtain ⟨DV, hDV⟩ : ∃ x, decS vn = x := ⟨_, rfl⟩
          rw [hDV] at cV dz de
          clear hDV
          replace de := Lib.hid de
          have hg5 := ((HS.out.2.2.2.2.2).keepB q1).keepB q15
          obtain ⟨sa, rfl⟩ : ∃ sa, so = some sa := by
            rcases hg5 with ⟨h, hn⟩ | ⟨sa, cap, h1, _⟩
            · rw [hn] at hW2; simp at hW2
            · simp only [Value.slice.injEq] at h1
              exact ⟨sa, h1.1⟩
          have hsc : WS.length ≤ sc := by
            rcases hg5 with ⟨h, hn⟩ | ⟨sa, cap, h1, h2, _⟩
            · cases h
            · simp only [Value.slice.injEq] at h1
              omega
          have cW1 : ∀ w, B w5 w → Calls Tryd.prog 30 #[.slice (some sa) 1 sc] w fun e w' => e = .returned (.string (strB (wellsT (WS.take 1)))) ∧ B w w' := fun w q => (r8wells_any _ _ w (wps_take1 (hg5.keepB q) (by omega)) (by rw [List.length_take]; omega)).mono fun e w' h => ⟨h.1, h.2.b⟩
          have cW2 : ∀ w, B w5 w → Calls Tryd.prog 30 #[.slice (some ⟨sa.block, sa.off + 3, none⟩) (WS.length - 1) (sc - 1)] w fun e w' => e = .returned (.string (strB (wellsT (WS.drop 1)))) ∧ B w w' := fun w q => (r8wells_any _ _ w (wps_drop1 (hg5.keepB q) (by omega)) (by rw [List.length_drop]; omega)).mono fun e w' h => ⟨h.1, h.2.b⟩
          have wz1 : (strB (wellsT (WS.take 1))).size ≤ 51 := by have := wellsT_len (WS.take 1); rw [strB_size]; rw [List.length_take] at this; omega
          have wz2 : (strB (wellsT (WS.drop 1))).size ≤ 51 * 96 := by have := wellsT_len (WS.drop 1); rw [strB_size]; rw [List.length_drop] at this; omega
          obtain ⟨WT1, hWT1⟩ : ∃ x, strB (wellsT (WS.take 1)) = x := ⟨_, rfl⟩
          obtain ⟨WT2, hWT2⟩ : ∃ x, strB (wellsT (WS.drop 1)) = x := ⟨_, rfl⟩
          rw [hWT1] at wz1
          rw [hWT2] at wz2
          simp only [hWT1] at cW1
          simp only [hWT2] at cW2
          have c1 : ¬ sc = 1 := by omega
          have c1' : 1 ≤ sc := by omega
          have l1' : 1 ≤ WS.length := by omega
          have l1I : (1 : Int) ≤ (WS.length : Int) := by omega
          have c1I : (1 : Int) ≤ (sc : Int) := by omega
          have hscI : (WS.length : Int) ≤ (sc : Int) := by omega
          obtain ⟨s2, j2⟩ : ∃ x, s1 ++ WT1 = x := ⟨_, rfl⟩
          have n2 : ¬ 9223372036854775807 < s1.size + WT1.size := by omega
          have z2 : s2.size ≤ S0.size + 59 := by rw [← j2, ByteArray.size_append]; omega
          obtain ⟨s3, j3⟩ : ∃ x, s2 ++ ({ data := #[32] } : ByteArray) = x := ⟨_, rfl⟩
          have n3 : ¬ 9223372036854775807 < s2.size + 1 := by omega
          have m3 : ¬ 9223372036854775807 < s2.size + ({ data := #[32] } : ByteArray).size := n3
          have z3 : s3.size ≤ S0.size + 60 := by rw [← j3, ByteArray.size_append]; show s2.size + 1 ≤ _; omega
          obtain ⟨s4, j4⟩ : ∃ x, s3 ++ DV = x := ⟨_, rfl⟩
          have n4 : ¬ 9223372036854775807 < s3.size + DV.size := by omega
          have z4 : s4.size ≤ S0.size + 80 := by rw [← j4, ByteArray.size_append]; omega
          obtain ⟨s5, j5⟩ : ∃ x, s4 ++ WT2 = x := ⟨_, rfl⟩
          have n5 : ¬ 9223372036854775807 < s4.size + WT2.size := by omega
          have z5 : s5.size ≤ S0.size + 4976 := by rw [← j5, ByteArray.size_append]; omega
          obtain ⟨s6, j6⟩ : ∃ x, s5 ++ ({ data := #[10] } : ByteArray) = x := ⟨_, rfl⟩
          have n6 : ¬ 9223372036854775807 < s5.size + 1 := by omega
          have m6 : ¬ 9223372036854775807 < s5.size + ({ data := #[10] } : ByteArray).size := n6
          have z6 : s6.size ≤ S0.size + 4977 := by rw [← j6, ByteArray.size_append]; show s5.size + 1 ≤ _; omega
          have HE : Hid (s6 = strB ((L.take i).flatMap (fun s => lineT (stepL s)) ++ lineT (stepL ⟨3, N, WS, (vn : Int), M⟩))) := Lib.hid (by
            rw [sl_34 (by omega), ← j6, ← j5, ← j4, ← j3, ← j2, ← j1, HS.out.1, ← HKW.out, show ({ data := #[32] } : ByteArray) = strB [32] from rfl, show ({ data := #[10] } : ByteArray) = strB [10] from rfl, de.out, ← hWT1, ← hWT2]
            simp only [strB_app, List.append_assoc])
          have HZ := Lib.hid z6
          have HX := Lib.hid q15
          clear q5 oS5 cNm
          go_wp2_with fail
          refine wp_region_noPanic ?_
          refine wp_region_seq (S := fun w' => w'.cell? ⟨G, 1, none⟩ = some (.string N) ∧ w'.cell? ⟨G, 2, none⟩ = some (.slice (some sa) WS.length sc) ∧ w'.cell? ⟨G, 3, none⟩ = some (.int .i64 (vn : Int)) ∧ w'.cell? ⟨G, 4, none⟩ = some (.int .i64 M) ∧ B w5 w') [(0, 0), (1, 0), (2, 0), (3, 0), (7, 0), (8, 0), (11, 0), (12, 0), (13, 0), (4, 2), (5, 0), (6, 0), (9, 2), (10, 0), (14, 2), (15, 0), (16, 0)] [0, 0, 2, 4, 8, 17, 32, 0, 128, 272, 576, 0, 2048, 4096, 8704, 17408, 65535] [0, 0, 2, 4, 8, 17, 32, 0, 128, 256, 576, 0, 2048, 4096, 8192, 17408, 32769] (by kernel_rfl) (by kernel_rfl) (fun _ _ _ _ _ h => h) ?_ (fun hH => ?_)
          · exact ⟨b1, b2, b3, b4, (B.refl w5).drew⟩
          refine wpSeq_take (d := 28) (v := ?_) rfl rfl (by kernel_rfl) (fun w hS => ?_) ?_
          rotate_left
          · go_simp <;> with_reducible rfl
          dsimp only [List.set_cons_zero, List.set_cons_succ]
          refine wpSeq_take (d := 29) (v := ?_) rfl rfl (by kernel_rfl) (fun w hS => ?_) ?_
          rotate_left
          · go_simp <;> with_reducible rfl
          dsimp only [List.set_cons_zero, List.set_cons_succ]
          refine wpSeq_take (d := 30) (v := ?_) rfl rfl (by kernel_rfl) (fun w hS => ?_) ?_
          rotate_left
          · go_simp <;> with_reducible rfl
          dsimp only [List.set_cons_zero, List.set_cons_succ]
          refine wpSeq_take (d := 31) (v := ?_) rfl rfl (by kernel_rfl) (fun w hS => ?_) ?_
          rotate_left
          · go_simp <;> with_reducible rfl
          dsimp only [List.set_cons_zero, List.set_cons_succ]
          refine wpSeq_take (d := 35) (v := ?_) rfl rfl (by kernel_rfl) (fun w hS => ?_) ?_
          rotate_left
          · go_simp <;> with_reducible rfl
          dsimp only [List.set_cons_zero, List.set_cons_succ]
          refine wpSeq_take (d := 36) (v := ?_) rfl rfl (by kernel_rfl) (fun w hS => ?_) ?_
          rotate_left
          · go_simp <;> with_reducible rfl
          dsimp only [List.set_cons_zero, List.set_cons_succ]
          refine wpSeq_take (d := 39) (v := ?_) rfl rfl (by kernel_rfl) (fun w hS => ?_) ?_
          rotate_left
          · go_simp <;> with_reducible rfl
          dsimp only [List.set_cons_zero, List.set_cons_succ]
          refine wpSeq_take (d := 40) (v := ?_) rfl rfl (by kernel_rfl) (fun w hS => ?_) ?_
          rotate_left
          · go_simp <;> with_reducible rfl
          dsimp only [List.set_cons_zero, List.set_cons_succ]
          refine wpSeq_take (d := 41) (v := ?_) rfl rfl (by kernel_rfl) (fun w hS => ?_) ?_
          rotate_left
          · go_simp <;> with_reducible rfl
          dsimp only [List.set_cons_zero, List.set_cons_succ]
          refine wpSeq_call rfl (by kernel_rfl) (fun K hK => ?_)
          go_simp
          (with_reducible refine (cW1 _ hH.2.2.2.2).mono ?_)
          rintro e w' ⟨rfl, hq⟩
          refine hK.out _ _ ?_ (fun hH => ?_)
          · exact ⟨hq.keep (hH.1), hq.keep (hH.2.1), hq.keep (hH.2.2.1), hq.keep (hH.2.2.2.1), (hH.2.2.2.2).trans hq⟩
          clear hK
          refine wpSeq_take (d := 33) (v := ?_) rfl rfl (by kernel_rfl) (fun w hS => ?_) ?_
          rotate_left
          · go_simp <;> with_reducible rfl
          dsimp only [List.set_cons_zero, List.set_cons_succ]
          refine wpSeq_take (d := 34) (v := ?_) rfl rfl (by kernel_rfl) (fun w hS => ?_) ?_
          rotate_left
          · go_simp <;> with_reducible rfl
          dsimp only [List.set_cons_zero, List.set_cons_succ]
          refine wpSeq_call rfl (by kernel_rfl) (fun K hK => ?_)
          go_simp
          (with_reducible refine (cV _).mono ?_)
          rintro e w' ⟨rfl, rfl⟩
          refine hK.out _ _ hH (fun hH => ?_)
          clear hK
          refine wpSeq_take (d := 38) (v := ?_) rfl rfl (by kernel_rfl) (fun w hS => ?_) ?_
          rotate_left
          · go_simp <;> with_reducible rfl
          dsimp only [List.set_cons_zero, List.set_cons_succ]
          refine wpSeq_call rfl (by kernel_rfl) (fun K hK => ?_)
          go_simp
          (with_reducible refine (cW2 _ hH.2.2.2.2).mono ?_)
          rintro e w' ⟨rfl, hq⟩
          refine hK.out _ _ ?_ (fun hH => ?_)
          · exact ⟨hq.keep (hH.1), hq.keep (hH.2.1), hq.keep (hH.2.2.1), hq.keep (hH.2.2.2.1), (hH.2.2.2.2).trans hq⟩
          clear hK
          refine wpSeq_take (d := 43) (v := ?_) rfl rfl (by kernel_rfl) (fun w hS => ?_) ?_
          rotate_left
          · go_simp <;> with_reducible rfl
          dsimp only [List.set_cons_zero, List.set_cons_succ]
          refine wpSeq_take (d := 3) (v := ?_) rfl rfl (by kernel_rfl) (fun w hS => ?_) ?_
          rotate_left
          · go_simp <;> with_reducible rfl
          dsimp only [List.set_cons_zero, List.set_cons_succ]
          refine wpSeq_done ?_
          refine NoPanic.normal ?_
          have HB := Lib.hid (q15.trans hH.2.2.2.2)
          clear hH b0 b1 b2 b3 b4 q15
          go_wp2
          go_roundw
          case rel =>
            obtain ⟨hS, hz0, hok, hl, hB, g5⟩ := HS.out
            exact ⟨i + 1, s6, by omega, by go_num, rfl, by rw [hT1.out]; exact HE.out, by have := HZ.out; omega, (hB.trans q1).trans HB.out⟩
          case measure => have := HS.out.2.2.2.1; simp [intOf]; omega
        · have hok := HS.out.2.2.1
          unfold stepOk at hok
          rw [stepK_4] at hok
          simp only [Bool.and_eq_true, decide_eq_true_eq] at hok
          obtain ⟨hV1, hV2⟩ := inB_of hok.2.1.1.2
          have hW2 := hok.2.1.2
          have hW96 := hok.2.2
          clear hok
          obtain ⟨vn, rfl⟩ := Int.eq_ofNat_of_zero_le (by omega : 0 ≤ V)
          have cV := fun w => r8dec_any vn vn (Nat.le_refl _) (by omega) w
          have dz := decS_size (n := vn) (by omega)
          have de := decS_strB vn
          obtain ⟨DV, hDV⟩ : ∃ x, decS vn = x := ⟨_, rfl⟩
          rw [hDV] at cV dz de
          clear hDV
          replace de := Lib.hid de
          have hg5 := ((HS.out.2.2.2.2.2).keepB q1).keepB q15
          obtain ⟨sa, rfl⟩ : ∃ sa, so = some sa := by
            rcases hg5 with ⟨h, hn⟩ | ⟨sa, cap, h1, _⟩
            · rw [hn] at hW2; simp at hW2
            · simp only [Value.slice.injEq] at h1
              exact ⟨sa, h1.1⟩
          have hsc : WS.length ≤ sc := by
            rcases hg5 with ⟨h, hn⟩ | ⟨sa, cap, h1, h2, _⟩
            · cases h
            · simp only [Value.slice.injEq] at h1
              omega
          have cW1 : ∀ w, B w5 w → Calls Tryd.prog 30 #[.slice (some sa) 1 sc] w fun e w' => e = .returned (.string (strB (wellsT (WS.take 1)))) ∧ B w w' := fun w q => (r8wells_any _ _ w (wps_take1 (hg5.keepB q) (by omega)) (by rw [List.length_take]; omega)).mono fun e w' h => ⟨h.1, h.2.b⟩
          have cW2 : ∀ w, B w5 w → Calls Tryd.prog 30 #[.slice (some ⟨sa.block, sa.off + 3, none⟩) (WS.length - 1) (sc - 1)] w fun e w' => e = .returned (.string (strB (wellsT (WS.drop 1)))) ∧ B w w' := fun w q => (r8wells_any _ _ w (wps_drop1 (hg5.keepB q) (by omega)) (by rw [List.length_drop]; omega)).mono fun e w' h => ⟨h.1, h.2.b⟩
          have wz1 : (strB (wellsT (WS.take 1))).size ≤ 51 := by have := wellsT_len (WS.take 1); rw [strB_size]; rw [List.length_take] at this; omega
          have wz2 : (strB (wellsT (WS.drop 1))).size ≤ 51 * 96 := by have := wellsT_len (WS.drop 1); rw [strB_size]; rw [List.length_drop] at this; omega
          obtain ⟨WT1, hWT1⟩ : ∃ x, strB (wellsT (WS.take 1)) = x := ⟨_, rfl⟩
          obtain ⟨WT2, hWT2⟩ : ∃ x, strB (wellsT (WS.drop 1)) = x := ⟨_, rfl⟩
          rw [hWT1] at wz1
          rw [hWT2] at wz2
          simp only [hWT1] at cW1
          simp only [hWT2] at cW2
          have c1 : ¬ sc = 1 := by omega
          have c1' : 1 ≤ sc := by omega
          have l1' : 1 ≤ WS.length := by omega
          have l1I : (1 : Int) ≤ (WS.length : Int) := by omega
          have c1I : (1 : Int) ≤ (sc : Int) := by omega
          have hscI : (WS.length : Int) ≤ (sc : Int) := by omega
          obtain ⟨s2, j2⟩ : ∃ x, s1 ++ WT1 = x := ⟨_, rfl⟩
          have n2 : ¬ 9223372036854775807 < s1.size + WT1.size := by omega
          have z2 : s2.size ≤ S0.size + 59 := by rw [← j2, ByteArray.size_append]; omega
          obtain ⟨s3, j3⟩ : ∃ x, s2 ++ ({ data := #[32] } : ByteArray) = x := ⟨_, rfl⟩
          have n3 : ¬ 9223372036854775807 < s2.size + 1 := by omega
          have m3 : ¬ 9223372036854775807 < s2.size + ({ data := #[32] } : ByteArray).size := n3
          have z3 : s3.size ≤ S0.size + 60 := by rw [← j3, ByteArray.size_append]; show s2.size + 1 ≤ _; omega
          obtain ⟨s4, j4⟩ : ∃ x, s3 ++ DV = x := ⟨_, rfl⟩
          have n4 : ¬ 9223372036854775807 < s3.size + DV.size := by omega
          have z4 : s4.size ≤ S0.size + 80 := by rw [← j4, ByteArray.size_append]; omega
          obtain ⟨s5, j5⟩ : ∃ x, s4 ++ WT2 = x := ⟨_, rfl⟩
          have n5 : ¬ 9223372036854775807 < s4.size + WT2.size := by omega
          have z5 : s5.size ≤ S0.size + 4976 := by rw [← j5, ByteArray.size_append]; omega
          obtain ⟨s6, j6⟩ : ∃ x, s5 ++ ({ data := #[10] } : ByteArray) = x := ⟨_, rfl⟩
          have n6 : ¬ 9223372036854775807 < s5.size + 1 := by omega
          have m6 : ¬ 9223372036854775807 < s5.size + ({ data := #[10] } : ByteArray).size := n6
          have z6 : s6.size ≤ S0.size + 4977 := by rw [← j6, ByteArray.size_append]; show s5.size + 1 ≤ _; omega
          have HE : Hid (s6 = strB ((L.take i).flatMap (fun s => lineT (stepL s)) ++ lineT (stepL ⟨4, N, WS, (vn : Int), M⟩))) := Lib.hid (by
            rw [sl_34 (by omega), ← j6, ← j5, ← j4, ← j3, ← j2, ← j1, HS.out.1, ← HKW.out, show ({ data := #[32] } : ByteArray) = strB [32] from rfl, show ({ data := #[10] } : ByteArray) = strB [10] from rfl, de.out, ← hWT1, ← hWT2]
            simp only [strB_app, List.append_assoc])
          have HZ := Lib.hid z6
          have HX := Lib.hid q15
          clear q5 oS5 cNm
          go_wp2_with fail
          refine wp_region_noPanic ?_
          refine wp_region_seq (S := fun w' => w'.cell? ⟨G, 1, none⟩ = some (.string N) ∧ w'.cell? ⟨G, 2, none⟩ = some (.slice (some sa) WS.length sc) ∧ w'.cell? ⟨G, 3, none⟩ = some (.int .i64 (vn : Int)) ∧ w'.cell? ⟨G, 4, none⟩ = some (.int .i64 M) ∧ B w5 w') [(0, 0), (1, 0), (2, 0), (3, 0), (7, 0), (8, 0), (11, 0), (12, 0), (13, 0), (4, 2), (5, 0), (6, 0), (9, 2), (10, 0), (14, 2), (15, 0), (16, 0)] [0, 0, 2, 4, 8, 17, 32, 0, 128, 272, 576, 0, 2048, 4096, 8704, 17408, 65535] [0, 0, 2, 4, 8, 17, 32, 0, 128, 256, 576, 0, 2048, 4096, 8192, 17408, 32769] (by kernel_rfl) (by kernel_rfl) (fun _ _ _ _ _ h => h) ?_ (fun hH => ?_)
          · exact ⟨b1, b2, b3, b4, (B.refl w5).drew⟩
          refine wpSeq_take (d := 28) (v := ?_) rfl rfl (by kernel_rfl) (fun w hS => ?_) ?_
          rotate_left
          · go_simp <;> with_reducible rfl
          dsimp only [List.set_cons_zero, List.set_cons_succ]
          refine wpSeq_take (d := 29) (v := ?_) rfl rfl (by kernel_rfl) (fun w hS => ?_) ?_
          rotate_left
          · go_simp <;> with_reducible rfl
          dsimp only [List.set_cons_zero, List.set_cons_succ]
          refine wpSeq_take (d := 30) (v := ?_) rfl rfl (by kernel_rfl) (fun w hS => ?_) ?_
          rotate_left
          · go_simp <;> with_reducible rfl
          dsimp only [List.set_cons_zero, List.set_cons_succ]
          refine wpSeq_take (d := 31) (v := ?_) rfl rfl (by kernel_rfl) (fun w hS => ?_) ?_
          rotate_left
          · go_simp <;> with_reducible rfl
          dsimp only [List.set_cons_zero, List.set_cons_succ]
          refine wpSeq_take (d := 35) (v := ?_) rfl rfl (by kernel_rfl) (fun w hS => ?_) ?_
          rotate_left
          · go_simp <;> with_reducible rfl
          dsimp only [List.set_cons_zero, List.set_cons_succ]
          refine wpSeq_take (d := 36) (v := ?_) rfl rfl (by kernel_rfl) (fun w hS => ?_) ?_
          rotate_left
          · go_simp <;> with_reducible rfl
          dsimp only [List.set_cons_zero, List.set_cons_succ]
          refine wpSeq_take (d := 39) (v := ?_) rfl rfl (by kernel_rfl) (fun w hS => ?_) ?_
          rotate_left
          · go_simp <;> with_reducible rfl
          dsimp only [List.set_cons_zero, List.set_cons_succ]
          refine wpSeq_take (d := 40) (v := ?_) rfl rfl (by kernel_rfl) (fun w hS => ?_) ?_
          rotate_left
          · go_simp <;> with_reducible rfl
          dsimp only [List.set_cons_zero, List.set_cons_succ]
          refine wpSeq_take (d := 41) (v := ?_) rfl rfl (by kernel_rfl) (fun w hS => ?_) ?_
          rotate_left
          · go_simp <;> with_reducible rfl
          dsimp only [List.set_cons_zero, List.set_cons_succ]
          refine wpSeq_call rfl (by kernel_rfl) (fun K hK => ?_)
          go_simp
          (with_reducible refine (cW1 _ hH.2.2.2.2).mono ?_)
          rintro e w' ⟨rfl, hq⟩
          refine hK.out _ _ ?_ (fun hH => ?_)
          · exact ⟨hq.keep (hH.1), hq.keep (hH.2.1), hq.keep (hH.2.2.1), hq.keep (hH.2.2.2.1), (hH.2.2.2.2).trans hq⟩
          clear hK
          refine wpSeq_take (d := 33) (v := ?_) rfl rfl (by kernel_rfl) (fun w hS => ?_) ?_
          rotate_left
          · go_simp <;> with_reducible rfl
          dsimp only [List.set_cons_zero, List.set_cons_succ]
          refine wpSeq_take (d := 34) (v := ?_) rfl rfl (by kernel_rfl) (fun w hS => ?_) ?_
          rotate_left
          · go_simp <;> with_reducible rfl
          dsimp only [List.set_cons_zero, List.set_cons_succ]
          refine wpSeq_call rfl (by kernel_rfl) (fun K hK => ?_)
          go_simp
          (with_reducible refine (cV _).mono ?_)
          rintro e w' ⟨rfl, rfl⟩
          refine hK.out _ _ hH (fun hH => ?_)
          clear hK
          refine wpSeq_take (d := 38) (v := ?_) rfl rfl (by kernel_rfl) (fun w hS => ?_) ?_
          rotate_left
          · go_simp <;> with_reducible rfl
          dsimp only [List.set_cons_zero, List.set_cons_succ]
          refine wpSeq_call rfl (by kernel_rfl) (fun K hK => ?_)
          go_simp
          (with_reducible refine (cW2 _ hH.2.2.2.2).mono ?_)
          rintro e w' ⟨rfl, hq⟩
          refine hK.out _ _ ?_ (fun hH => ?_)
          · exact ⟨hq.keep (hH.1), hq.keep (hH.2.1), hq.keep (hH.2.2.1), hq.keep (hH.2.2.2.1), (hH.2.2.2.2).trans hq⟩
          clear hK
          refine wpSeq_take (d := 43) (v := ?_) rfl rfl (by kernel_rfl) (fun w hS => ?_) ?_
          rotate_left
          · go_simp <;> with_reducible rfl
          dsimp only [List.set_cons_zero, List.set_cons_succ]
          refine wpSeq_take (d := 3) (v := ?_) rfl rfl (by kernel_rfl) (fun w hS => ?_) ?_
          rotate_left
          · go_simp <;> with_reducible rfl
          dsimp only [List.set_cons_zero, List.set_cons_succ]
          refine wpSeq_done ?_
          refine NoPanic.normal ?_
          have HB := Lib.hid (q15.trans hH.2.2.2.2)
          clear hH b0 b1 b2 b3 b4 q15
          go_wp2
          go_roundw
          case rel =>
            obtain ⟨hS, hz0, hok, hl, hB, g5⟩ := HS.out
            exact ⟨i + 1, s6, by omega, by go_num, rfl, by rw [hT1.out]; exact HE.out, by have := HZ.out; omega, (hB.trans q1).trans HB.out⟩
          case measure => have := HS.out.2.2.2.1; simp [intOf]; omega
        · have hok := HS.out.2.2.1
          unfold stepOk at hok
          rw [stepK_5] at hok
          simp only [Bool.and_eq_true, decide_eq_true_eq] at hok
          obtain ⟨hV1, hV2⟩ := inB_of hok.2.1.2
          obtain ⟨hM1, hM2⟩ := inB_of hok.2.2
          have hW96 : WS.length ≤ 96 := by have := hok.2.1.1.2; omega
          clear hok
          obtain ⟨vn, rfl⟩ := Int.eq_ofNat_of_zero_le (by omega : 0 ≤ V)
          have cV := fun w => r8dec_any vn vn (Nat.le_refl _) (by omega) w
          have dz := decS_size (n := vn) (by omega)
          have de := decS_strB vn
          obtain ⟨DV, hDV⟩ : ∃ x, decS vn = x := ⟨_, rfl⟩
          rw [hDV] at cV dz de
          clear hDV
          replace de := Lib.hid de
          obtain ⟨mn, rfl⟩ := Int.eq_ofNat_of_zero_le (by omega : 0 ≤ M)
          have cM := fun w => r8dec_any mn mn (Nat.le_refl _) (by omega) w
          have mz := decS_size (n := mn) (by omega)
          have me := decS_strB mn
          obtain ⟨DM, hDM⟩ : ∃ x, decS mn = x := ⟨_, rfl⟩
          rw [hDM] at cM mz me
          clear hDM
          replace me := Lib.hid me
          have umn : IntKind.i64.wrap (mn : Int) = (mn : Int) := by rw [IntKind.wrap_i64]; omega
          have cW : ∀ w, B w5 w → Calls Tryd.prog 30 #[.slice so WS.length sc] w fun e w' => e = .returned (.string (strB (wellsT WS))) ∧ B w w' := fun w q => (r8wells_any _ WS w ((((HS.out.2.2.2.2.2).keepB q1).keepB q15).keepB q) (by omega)).mono fun e w' h => ⟨h.1, h.2.b⟩
          have wz : (strB (wellsT WS)).size ≤ 51 * 96 := by have := wellsT_len WS; rw [strB_size]; omega
          obtain ⟨WT, hWT⟩ : ∃ x, strB (wellsT WS) = x := ⟨_, rfl⟩
          rw [hWT] at wz
          simp only [hWT] at cW
          obtain ⟨s2, j2⟩ : ∃ x, s1 ++ WT = x := ⟨_, rfl⟩
          have n2 : ¬ 9223372036854775807 < s1.size + WT.size := by omega
          have z2 : s2.size ≤ S0.size + 4904 := by rw [← j2, ByteArray.size_append]; omega
          obtain ⟨s3, j3⟩ : ∃ x, s2 ++ ({ data := #[32] } : ByteArray) = x := ⟨_, rfl⟩
          have n3 : ¬ 9223372036854775807 < s2.size + 1 := by omega
          have m3 : ¬ 9223372036854775807 < s2.size + ({ data := #[32] } : ByteArray).size := n3
          have z3 : s3.size ≤ S0.size + 4905 := by rw [← j3, ByteArray.size_append]; show s2.size + 1 ≤ _; omega
          obtain ⟨s4, j4⟩ : ∃ x, s3 ++ DV = x := ⟨_, rfl⟩
          have n4 : ¬ 9223372036854775807 < s3.size + DV.size := by omega
          have z4 : s4.size ≤ S0.size + 4925 := by rw [← j4, ByteArray.size_append]; omega
          obtain ⟨s5, j5⟩ : ∃ x, s4 ++ ({ data := #[32] } : ByteArray) = x := ⟨_, rfl⟩
          have n5 : ¬ 9223372036854775807 < s4.size + 1 := by omega
          have m5 : ¬ 9223372036854775807 < s4.size + ({ data := #[32] } : ByteArray).size := n5
          have z5 : s5.size ≤ S0.size + 4926 := by rw [← j5, ByteArray.size_append]; show s4.size + 1 ≤ _; omega
          obtain ⟨s6, j6⟩ : ∃ x, s5 ++ DM = x := ⟨_, rfl⟩
          have n6 : ¬ 9223372036854775807 < s5.size + DM.size := by omega
          have z6 : s6.size ≤ S0.size + 4946 := by rw [← j6, ByteArray.size_append]; omega
          obtain ⟨s7, j7⟩ : ∃ x, s6 ++ ({ data := #[10] } : ByteArray) = x := ⟨_, rfl⟩
          have n7 : ¬ 9223372036854775807 < s6.size + 1 := by omega
          have m7 : ¬ 9223372036854775807 < s6.size + ({ data := #[10] } : ByteArray).size := n7
          have z7 : s7.size ≤ S0.size + 4947 := by rw [← j7, ByteArray.size_append]; show s6.size + 1 ≤ _; omega
          have HE : Hid (s7 = strB ((L.take i).flatMap (fun s => lineT (stepL s)) ++ lineT (stepL ⟨5, N, WS, (vn : Int), (mn : Int)⟩))) := Lib.hid (by
            rw [sl_5, ← j7, ← j6, ← j5, ← j4, ← j3, ← j2, ← j1, HS.out.1, ← HKW.out, show ({ data := #[32] } : ByteArray) = strB [32] from rfl, show ({ data := #[10] } : ByteArray) = strB [10] from rfl, de.out, me.out, ← hWT]
            simp only [strB_app, List.append_assoc])
          have HZ := Lib.hid z7
          have HX := Lib.hid q15
          clear q5 oS5 cNm
          go_wp2_with fail
          refine wp_region_noPanic ?_
          refine wp_region_seq (S := fun w' => w'.cell? ⟨G, 1, none⟩ = some (.string N) ∧ w'.cell? ⟨G, 2, none⟩ = some (.slice so WS.length sc) ∧ w'.cell? ⟨G, 3, none⟩ = some (.int .i64 (vn : Int)) ∧ w'.cell? ⟨G, 4, none⟩ = some (.int .i64 (mn : Int)) ∧ B w5 w') [(0, 0), (1, 0), (2, 0), (6, 0), (7, 0), (11, 0), (12, 0), (3, 2), (4, 0), (5, 0), (8, 2), (9, 0), (10, 0), (13, 2), (14, 0), (15, 0)] [0, 0, 2, 4, 9, 16, 0, 64, 136, 288, 512, 0, 2048, 4352, 9216, 32767] [0, 0, 2, 4, 9, 16, 0, 64, 128, 288, 512, 0, 2048, 4096, 9216, 16385] (by kernel_rfl) (by kernel_rfl) (fun _ _ _ _ _ h => h) ?_ (fun hH => ?_)
          · exact ⟨b1, b2, b3, b4, (B.refl w5).drew⟩
          refine wpSeq_take (d := 86) (v := ?_) rfl rfl (by kernel_rfl) (fun w hS => ?_) ?_
          rotate_left
          · go_simp <;> with_reducible rfl
          dsimp only [List.set_cons_zero, List.set_cons_succ]
          refine wpSeq_take (d := 87) (v := ?_) rfl rfl (by kernel_rfl) (fun w hS => ?_) ?_
          rotate_left
          · go_simp <;> with_reducible rfl
          dsimp only [List.set_cons_zero, List.set_cons_succ]
          refine wpSeq_take (d := 88) (v := ?_) rfl rfl (by kernel_rfl) (fun w hS => ?_) ?_
          rotate_left
          · go_simp <;> with_reducible rfl
          dsimp only [List.set_cons_zero, List.set_cons_succ]
          refine wpSeq_take (d := 92) (v := ?_) rfl rfl (by kernel_rfl) (fun w hS => ?_) ?_
          rotate_left
          · go_simp <;> with_reducible rfl
          dsimp only [List.set_cons_zero, List.set_cons_succ]
          refine wpSeq_take (d := 93) (v := ?_) rfl rfl (by kernel_rfl) (fun w hS => ?_) ?_
          rotate_left
          · go_simp <;> with_reducible rfl
          dsimp only [List.set_cons_zero, List.set_cons_succ]
          refine wpSeq_take (d := 97) (v := ?_) rfl rfl (by kernel_rfl) (fun w hS => ?_) ?_
          rotate_left
          · go_simp <;> with_reducible rfl
          dsimp only [List.set_cons_zero, List.set_cons_succ]
          refine wpSeq_take (d := 98) (v := ?_) rfl rfl (by kernel_rfl) (fun w hS => ?_) ?_
          rotate_left
          · go_simp <;> with_reducible rfl
          dsimp only [List.set_cons_zero, List.set_cons_succ]
          refine wpSeq_call rfl (by kernel_rfl) (fun K hK => ?_)
          go_simp
          (with_reducible refine (cW _ hH.2.2.2.2).mono ?_)
          rintro e w' ⟨rfl, hq⟩
          refine hK.out _ _ ?_ (fun hH => ?_)
          · exact ⟨hq.keep (hH.1), hq.keep (hH.2.1), hq.keep (hH.2.2.1), hq.keep (hH.2.2.2.1), (hH.2.2.2.2).trans hq⟩
          clear hK
          refine wpSeq_take (d := 90) (v := ?_) rfl rfl (by kernel_rfl) (fun w hS => ?_) ?_
          rotate_left
          · go_simp <;> with_reducible rfl
          dsimp only [List.set_cons_zero, List.set_cons_succ]
          refine wpSeq_take (d := 91) (v := ?_) rfl rfl (by kernel_rfl) (fun w hS => ?_) ?_
          rotate_left
          · go_simp <;> with_reducible rfl
          dsimp only [List.set_cons_zero, List.set_cons_succ]
          refine wpSeq_call rfl (by kernel_rfl) (fun K hK => ?_)
          go_simp
          (with_reducible refine (cV _).mono ?_)
          rintro e w' ⟨rfl, rfl⟩
          refine hK.out _ _ hH (fun hH => ?_)
          clear hK
          refine wpSeq_take (d := 95) (v := ?_) rfl rfl (by kernel_rfl) (fun w hS => ?_) ?_
          rotate_left
          · go_simp <;> with_reducible rfl
          dsimp only [List.set_cons_zero, List.set_cons_succ]
          refine wpSeq_take (d := 96) (v := ?_) rfl rfl (by kernel_rfl) (fun w hS => ?_) ?_
          rotate_left
          · go_simp <;> with_reducible rfl
          dsimp only [List.set_cons_zero, List.set_cons_succ]
          refine wpSeq_call rfl (by kernel_rfl) (fun K hK => ?_)
          go_simp
          (with_reducible refine (cM _).mono ?_)
          rintro e w' ⟨rfl, rfl⟩
          refine hK.out _ _ hH (fun hH => ?_)
          clear hK
          refine wpSeq_take (d := 100) (v := ?_) rfl rfl (by kernel_rfl) (fun w hS => ?_) ?_
          rotate_left
          · go_simp <;> with_reducible rfl
          dsimp only [List.set_cons_zero, List.set_cons_succ]
          refine wpSeq_take (d := 3) (v := ?_) rfl rfl (by kernel_rfl) (fun w hS => ?_) ?_
          rotate_left
          · go_simp <;> with_reducible rfl
          dsimp only [List.set_cons_zero, List.set_cons_succ]
          refine wpSeq_done ?_
          refine NoPanic.normal ?_
          have HB := Lib.hid (q15.trans hH.2.2.2.2)
          clear hH b0 b1 b2 b3 b4 q15
          go_wp2
          go_roundw
          case rel =>
            obtain ⟨hS, hz0, hok, hl, hB, g5⟩ := HS.out
            exact ⟨i + 1, s7, by omega, by go_num, rfl, by rw [hT1.out]; exact HE.out, by have := HZ.out; omega, (hB.trans q1).trans HB.out⟩
          case measure => have := HS.out.2.2.2.1; simp [intOf]; omega
        · have hok := HS.out.2.2.1
          unfold stepOk at hok
          rw [stepK_6] at hok
          simp only [Bool.and_eq_true, decide_eq_true_eq] at hok
          obtain ⟨hV1, hV2⟩ := inB_of hok.2.1.1.2
          have hW96 := hok.2.2
          clear hok
          obtain ⟨vn, rfl⟩ := Int.eq_ofNat_of_zero_le (by omega : 0 ≤ V)
          have cV := fun w => r8dec_any vn vn (Nat.le_refl _) (by omega) w
          have dz := decS_size (n := vn) (by omega)
          have de := decS_strB vn
          obtain ⟨DV, hDV⟩ : ∃ x, decS vn = x := ⟨_, rfl⟩
          rw [hDV] at cV dz de
          clear hDV
          replace de := Lib.hid de
          have cW : ∀ w, B w5 w → Calls Tryd.prog 30 #[.slice so WS.length sc] w fun e w' => e = .returned (.string (strB (wellsT WS))) ∧ B w w' := fun w q => (r8wells_any _ WS w ((((HS.out.2.2.2.2.2).keepB q1).keepB q15).keepB q) (by omega)).mono fun e w' h => ⟨h.1, h.2.b⟩
          have wz : (strB (wellsT WS)).size ≤ 51 * 96 := by have := wellsT_len WS; rw [strB_size]; omega
          obtain ⟨WT, hWT⟩ : ∃ x, strB (wellsT WS) = x := ⟨_, rfl⟩
          rw [hWT] at wz
          simp only [hWT] at cW
          obtain ⟨s2, j2⟩ : ∃ x, s1 ++ ({ data := #[32] } : ByteArray) = x := ⟨_, rfl⟩
          have n2 : ¬ 9223372036854775807 < s1.size + 1 := by omega
          have m2 : ¬ 9223372036854775807 < s1.size + ({ data := #[32] } : ByteArray).size := n2
          have z2 : s2.size ≤ S0.size + 9 := by rw [← j2, ByteArray.size_append]; show s1.size + 1 ≤ _; omega
          obtain ⟨s3, j3⟩ : ∃ x, s2 ++ DV = x := ⟨_, rfl⟩
          have n3 : ¬ 9223372036854775807 < s2.size + DV.size := by omega
          have z3 : s3.size ≤ S0.size + 29 := by rw [← j3, ByteArray.size_append]; omega
          obtain ⟨s4, j4⟩ : ∃ x, s3 ++ WT = x := ⟨_, rfl⟩
          have n4 : ¬ 9223372036854775807 < s3.size + WT.size := by omega
          have z4 : s4.size ≤ S0.size + 4925 := by rw [← j4, ByteArray.size_append]; omega
          obtain ⟨s5, j5⟩ : ∃ x, s4 ++ ({ data := #[10] } : ByteArray) = x := ⟨_, rfl⟩
          have n5 : ¬ 9223372036854775807 < s4.size + 1 := by omega
          have m5 : ¬ 9223372036854775807 < s4.size + ({ data := #[10] } : ByteArray).size := n5
          have z5 : s5.size ≤ S0.size + 4926 := by rw [← j5, ByteArray.size_append]; show s4.size + 1 ≤ _; omega
          have HE : Hid (s5 = strB ((L.take i).flatMap (fun s => lineT (stepL s)) ++ lineT (stepL ⟨6, N, WS, (vn : Int), M⟩))) := Lib.hid (by
            rw [sl_6, ← j5, ← j4, ← j3, ← j2, ← j1, HS.out.1, ← HKW.out, show ({ data := #[32] } : ByteArray) = strB [32] from rfl, show ({ data := #[10] } : ByteArray) = strB [10] from rfl, de.out, ← hWT]
            simp only [strB_app, List.append_assoc])
          have HZ := Lib.hid z5
          have HX := Lib.hid q15
          clear q5 oS5 cNm
          go_wp2_with fail
          refine wp_region_noPanic ?_
          refine wp_region_seq (S := fun w' => w'.cell? ⟨G, 1, none⟩ = some (.string N) ∧ w'.cell? ⟨G, 2, none⟩ = some (.slice so WS.length sc) ∧ w'.cell? ⟨G, 3, none⟩ = some (.int .i64 (vn : Int)) ∧ w'.cell? ⟨G, 4, none⟩ = some (.int .i64 M) ∧ B w5 w') [(0, 0), (1, 0), (2, 0), (3, 0), (6, 0), (7, 0), (4, 2), (5, 0), (8, 2), (9, 0), (10, 0)] [0, 1, 0, 4, 8, 18, 0, 64, 144, 288, 1023] [0, 1, 0, 4, 8, 18, 0, 64, 128, 288, 513] (by kernel_rfl) (by kernel_rfl) (fun _ _ _ _ _ h => h) ?_ (fun hH => ?_)
          · exact ⟨b1, b2, b3, b4, (B.refl w5).drew⟩
          refine wpSeq_take (d := 62) (v := ?_) rfl rfl (by kernel_rfl) (fun w hS => ?_) ?_
          rotate_left
          · go_simp <;> with_reducible rfl
          dsimp only [List.set_cons_zero, List.set_cons_succ]
          refine wpSeq_take (d := 63) (v := ?_) rfl rfl (by kernel_rfl) (fun w hS => ?_) ?_
          rotate_left
          · go_simp <;> with_reducible rfl
          dsimp only [List.set_cons_zero, List.set_cons_succ]
          refine wpSeq_take (d := 64) (v := ?_) rfl rfl (by kernel_rfl) (fun w hS => ?_) ?_
          rotate_left
          · go_simp <;> with_reducible rfl
          dsimp only [List.set_cons_zero, List.set_cons_succ]
          refine wpSeq_take (d := 65) (v := ?_) rfl rfl (by kernel_rfl) (fun w hS => ?_) ?_
          rotate_left
          · go_simp <;> with_reducible rfl
          dsimp only [List.set_cons_zero, List.set_cons_succ]
          refine wpSeq_take (d := 68) (v := ?_) rfl rfl (by kernel_rfl) (fun w hS => ?_) ?_
          rotate_left
          · go_simp <;> with_reducible rfl
          dsimp only [List.set_cons_zero, List.set_cons_succ]
          refine wpSeq_take (d := 69) (v := ?_) rfl rfl (by kernel_rfl) (fun w hS => ?_) ?_
          rotate_left
          · go_simp <;> with_reducible rfl
          dsimp only [List.set_cons_zero, List.set_cons_succ]
          refine wpSeq_call rfl (by kernel_rfl) (fun K hK => ?_)
          go_simp
          (with_reducible refine (cV _).mono ?_)
          rintro e w' ⟨rfl, rfl⟩
          refine hK.out _ _ hH (fun hH => ?_)
          clear hK
          refine wpSeq_take (d := 67) (v := ?_) rfl rfl (by kernel_rfl) (fun w hS => ?_) ?_
          rotate_left
          · go_simp <;> with_reducible rfl
          dsimp only [List.set_cons_zero, List.set_cons_succ]
          refine wpSeq_call rfl (by kernel_rfl) (fun K hK => ?_)
          go_simp
          (with_reducible refine (cW _ hH.2.2.2.2).mono ?_)
          rintro e w' ⟨rfl, hq⟩
          refine hK.out _ _ ?_ (fun hH => ?_)
          · exact ⟨hq.keep (hH.1), hq.keep (hH.2.1), hq.keep (hH.2.2.1), hq.keep (hH.2.2.2.1), (hH.2.2.2.2).trans hq⟩
          clear hK
          refine wpSeq_take (d := 71) (v := ?_) rfl rfl (by kernel_rfl) (fun w hS => ?_) ?_
          rotate_left
          · go_simp <;> with_reducible rfl
          dsimp only [List.set_cons_zero, List.set_cons_succ]
          refine wpSeq_take (d := 3) (v := ?_) rfl rfl (by kernel_rfl) (fun w hS => ?_) ?_
          rotate_left
          · go_simp <;> with_reducible rfl
          dsimp only [List.set_cons_zero, List.set_cons_succ]
          refine wpSeq_done ?_
          refine NoPanic.normal ?_
          have HB := Lib.hid (q15.trans hH.2.2.2.2)
          clear hH b0 b1 b2 b3 b4 q15
          go_wp2
          go_roundw
          case rel =>
            obtain ⟨hS, hz0, hok, hl, hB, g5⟩ := HS.out
            exact ⟨i + 1, s5, by omega, by go_num, rfl, by rw [hT1.out]; exact HE.out, by have := HZ.out; omega, (hB.trans q1).trans HB.out⟩
          case measure => have := HS.out.2.2.2.1; simp [intOf]; omega
    · have hlB : decide ((i : Int) < (L.length : Int)) = false := decide_eq_false (by omega)
      have hlN : decide (i < L.length) = false := decide_eq_false hl
      rw [List.take_of_length_le (by omega)] at hS
      have HX := Lib.hid (And.intro hS (q0.b.trans hB))
      clear hl hS
      go_wp2
      go_ret
      exact ⟨by rw [hE.out, ← HX.out.1]; rfl, HX.out.2⟩
end Go.Proofs.YtnmcgleanpdlmaaDoor
