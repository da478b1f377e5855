/-
  Which well any text is, and each well's text.
-/
import Derived.Laws.BytesArg
import Derived.Test.YtjcpabppklkjpaaDoorZ1
import Derived.Test.YtjcpabppklkjpaaDoorZ2
import Derived.Test.YtjcpabppklkjpaaDoorZ3
import Derived.Test.YtjcpabppklkjpaaDoorZ4
import Derived.Test.YtjcpabppklkjpaaDoorZ5
import Derived.Test.YtjcpabppklkjpaaDoorZ6
import Derived.Test.YtjcpabppklkjpaaDoorZ7
import Derived.Test.YtjcpabppklkjpaaDoorZ8
import Derived.Test.YtjcpabppklkjpaaDoorZ9
namespace Go.Proofs.YtjcpabppklkjpaaDoor
open Go.RowKit
set_option linter.unusedVariables false
theorem well_range {l n : List UInt8} {r c : Nat} (h : wellL l = some (n, r, c)) : r < 8 ∧ c < 12 := by
  rw [wellL_parts] at h
  cases e : l.drop (dotAt l + 1) with
  | nil => rw [e] at h; cases h
  | cons x ds =>
    rw [e] at h
    simp only at h
    by_cases hc : (numOk (strB ds) && wrB (strB (l.take (dotAt l))) ((x.toNat : Int) - 65) ((numV (strB ds) : Int) - 1)) = true
    · rw [if_pos hc] at h
      simp only [Option.some.injEq, Prod.mk.injEq] at h
      obtain ⟨_, rfl, rfl⟩ := h
      rw [Bool.and_eq_true] at hc
      have := wrB_iff.1 hc.2
      omega
    · rw [if_neg hc] at h; cases h
theorem wellT_short (n : ByteArray) (r c : Int) : (wellT n r c).length ≤ 50 := by
  unfold wellT
  by_cases h : nameS n = true ∧ 0 ≤ r ∧ r < 8 ∧ 0 ≤ c ∧ c < 12
  · rw [if_pos h]
    have hz : n.data.toList.length ≤ 16 := by
      have e : n.data.toList.length = n.size := Array.length_toList
      rw [e]
      have hn := h.1
      unfold nameS at hn
      simp only [Bool.and_eq_true, decide_eq_true_eq] at hn
      omega
    have hd : (decI (c + 1)).length ≤ 20 := by
      obtain ⟨k, hk⟩ := Int.eq_ofNat_of_zero_le (by omega : 0 ≤ c + 1)
      have := decS_size (n := k) (by omega)
      rw [hk]
      rw [decS_strB, strB_size] at this
      exact this
    simp only [List.length_append, List.length_cons, List.length_nil]
    omega
  · rw [if_neg h]; simp
set_option maxRecDepth 100000 in
set_option maxHeartbeats 4000000 in
theorem wtells_any (S0 WN NM : ByteArray) (r c a b n : Int) (hr : I64 r) (hc : I64 c) (ha : 0 ≤ a ∧ a ≤ 255) (hb : 0 ≤ b ∧ b ≤ 255) (hn : 0 ≤ n ∧ n ≤ 65535) (w : World) :
    Calls Tryd.prog 3 #[.string S0, .agg #[.string WN, .int .i64 r, .int .i64 c], .int .u8 a, .int .u8 b, .string NM, .int .u16 n] w fun e w' => e = .returned (.bool true) ∧ B w w' := by
  have ck := fun w => wknown_any w
  have q0 := (B.refl w).alloc #[.string WN, .int .i64 r, .int .i64 c] 23
  have oW := obj_new w (.cells #[.string WN, .int .i64 r, .int .i64 c] 23)
  by_cases hlen : S0.size ≤ 60 ∧ WN.size ≤ 40 ∧ NM.size ≤ 20
  case neg =>
    have hq : (decide ((60 : Int) < (S0.size : Int)) = true ∧ decide (60 < S0.size) = true) ∨ (decide ((60 : Int) < (S0.size : Int)) = false ∧ decide (60 < S0.size) = false ∧ decide ((40 : Int) < (WN.size : Int)) = true ∧ decide (40 < WN.size) = true) ∨ (decide ((60 : Int) < (S0.size : Int)) = false ∧ decide (60 < S0.size) = false ∧ decide ((40 : Int) < (WN.size : Int)) = false ∧ decide (40 < WN.size) = false ∧ decide ((20 : Int) < (NM.size : Int)) = true ∧ decide (20 < NM.size) = true) := by
      by_cases h1 : 60 < S0.size
      · exact .inl ⟨decide_eq_true (by omega), decide_eq_true h1⟩
      · by_cases h2 : 40 < WN.size
        · exact .inr (.inl ⟨decide_eq_false (by omega), decide_eq_false h1, decide_eq_true (by omega), decide_eq_true h2⟩)
        · exact .inr (.inr ⟨decide_eq_false (by omega), decide_eq_false h1, decide_eq_false (by omega), decide_eq_false h2, decide_eq_true (by omega), decide_eq_true (by omega)⟩)
    clear hlen hr hc ha hb hn
    rcases hq with ⟨g1, g2⟩ | ⟨g1, g2, g3, g4⟩ | ⟨g1, g2, g3, g4, g5, g6⟩
    all_goals
      go_enter Tryd.func3, Tryd.ntmps3
      go_wp2_with fail
      refine (ck _).mono ?_
      rintro _ w1 ⟨rfl, q1⟩
      have k0 : w1.cell? ⟨w.heap.size, 0, none⟩ = some (.string WN) := obj_cell (q1.obj oW) 0
      go_wp2
      go_ret
      exact ⟨rfl, q0.trans q1⟩
  obtain ⟨l1, l2, l3⟩ := hlen
  have g1 : decide ((60 : Int) < (S0.size : Int)) = false := decide_eq_false (by omega)
  have g2 : decide (60 < S0.size) = false := decide_eq_false (by omega)
  have g3 : decide ((40 : Int) < (WN.size : Int)) = false := decide_eq_false (by omega)
  have g4 : decide (40 < WN.size) = false := decide_eq_false (by omega)
  have g5 : decide ((20 : Int) < (NM.size : Int)) = false := decide_eq_false (by omega)
  have g6 : decide (20 < NM.size) = false := decide_eq_false (by omega)
  obtain ⟨n, rfl⟩ := Int.eq_ofNat_of_zero_le hn.1
  obtain ⟨a, rfl⟩ := Int.eq_ofNat_of_zero_le ha.1
  obtain ⟨b, rfl⟩ := Int.eq_ofNat_of_zero_le hb.1
  obtain ⟨N20, hN⟩ : ∃ x, n % 20 = x := ⟨_, rfl⟩
  obtain ⟨A12, hA⟩ : ∃ x, a % 12 = x := ⟨_, rfl⟩
  obtain ⟨B16, hB16⟩ : ∃ x, b % 16 = x := ⟨_, rfl⟩
  obtain ⟨A10, hA10⟩ : ∃ x, a % 10 = x := ⟨_, rfl⟩
  obtain ⟨B15, hB15⟩ : ∃ x, b % 15 = x := ⟨_, rfl⟩
  have tN : ((n : Int)).tmod 20 = (N20 : Int) := by rw [Int.tmod_eq_emod_of_nonneg (by omega)]; omega
  have tA : ((a : Int)).tmod 12 = (A12 : Int) := by rw [Int.tmod_eq_emod_of_nonneg (by omega)]; omega
  have tB : ((b : Int)).tmod 16 = (B16 : Int) := by rw [Int.tmod_eq_emod_of_nonneg (by omega)]; omega
  have tA10 : ((a : Int)).tmod 10 = (A10 : Int) := by rw [Int.tmod_eq_emod_of_nonneg (by omega)]; omega
  have tB15 : ((b : Int)).tmod 15 = (B15 : Int) := by rw [Int.tmod_eq_emod_of_nonneg (by omega)]; omega
  have eN : ((n : Int)) % 20 = (N20 : Int) := by omega
  have eA : ((a : Int)) % 12 = (A12 : Int) := by omega
  have eB : ((b : Int)) % 16 = (B16 : Int) := by omega
  have eA10 : ((a : Int)) % 10 = (A10 : Int) := by omega
  have eB15 : ((b : Int)) % 15 = (B15 : Int) := by omega
  have m8 : ∀ x : Nat, x < 100 → IntKind.u8.wrap (x : Int) = (x : Int) ∧ IntKind.i64.wrap (x : Int) = (x : Int) ∧ IntKind.u16.wrap (x : Int) = (x : Int) := fun x h => ⟨by unfold IntKind.wrap; simp [IntKind.bits, IntKind.signed]; omega, by rw [IntKind.wrap_i64]; omega, by unfold IntKind.wrap; simp [IntKind.bits, IntKind.signed]; omega⟩
  obtain ⟨u1, v1, _⟩ := m8 A10 (by omega)
  obtain ⟨u2, v2, _⟩ := m8 B15 (by omega)
  obtain ⟨u3, v3, _⟩ := m8 A12 (by omega)
  obtain ⟨u4, v4, _⟩ := m8 B16 (by omega)
  obtain ⟨_, v5, u5⟩ := m8 N20 (by omega)
  have u6 : IntKind.u8.wrap (65 + (A12 : Int)) = 65 + (A12 : Int) := by unfold IntKind.wrap; simp [IntKind.bits, IntKind.signed]; omega
  obtain ⟨R, hR⟩ : ∃ R : Int, (A10 : Int) = R := ⟨_, rfl⟩
  obtain ⟨C, hC⟩ : ∃ C : Int, (B15 : Int) - 1 = C := ⟨_, rfl⟩
  have bR : I64 R := by unfold I64; omega
  have bC : I64 C := by unfold I64; omega
  have u7 : IntKind.i64.wrap ((B15 : Int) - 1) = C := by rw [hC, IntKind.wrap_i64]; omega
  obtain ⟨PN, hPN⟩ : ∃ PN, (⟨#[112]⟩ : ByteArray) ++ NM = PN := ⟨_, rfl⟩
  have z0 : ¬ 9223372036854775807 < 1 + NM.size := by omega
  have z0' : ¬ 9223372036854775807 < (⟨#[112]⟩ : ByteArray).size + NM.size := z0
  obtain ⟨N1, hN1⟩ : ∃ x, NM ++ (⟨#[46, 65]⟩ : ByteArray) = x := ⟨_, rfl⟩
  have z1 : ¬ 9223372036854775807 < NM.size + 2 := by omega
  have z1' : ¬ 9223372036854775807 < NM.size + (⟨#[46, 65]⟩ : ByteArray).size := z1
  have s1 : N1.size = NM.size + 2 := by rw [← hN1, ByteArray.size_append]; rfl
  have cd1 := fun w => r8dec_any N20 N20 (Nat.le_refl _) (by omega) w
  have cd2 := fun w => r8dec_any B16 B16 (Nat.le_refl _) (by omega) w
  have d1s := decS_size (n := N20) (by omega)
  have d2s := decS_size (n := B16) (by omega)
  have d1e := decS_strB N20
  have d2e := decS_strB B16
  obtain ⟨D1, hD1⟩ : ∃ x, decS N20 = x := ⟨_, rfl⟩
  obtain ⟨D2, hD2⟩ : ∃ x, decS B16 = x := ⟨_, rfl⟩
  rw [hD1] at cd1 d1s d1e
  rw [hD2] at cd2 d2s d2e
  obtain ⟨S1, hS1⟩ : ∃ x, N1 ++ D1 = x := ⟨_, rfl⟩
  have z2 : ¬ 9223372036854775807 < N1.size + D1.size := by omega
  obtain ⟨C1, hC1⟩ : ∃ x, strOfNums [65 + (A12 : Int)] = x := ⟨_, rfl⟩
  have c1s : C1.size = 1 := by rw [← hC1]; rfl
  obtain ⟨T1, hT1⟩ : ∃ x, (⟨#[116, 117, 98, 101, 46]⟩ : ByteArray) ++ C1 = x := ⟨_, rfl⟩
  have z3 : ¬ 9223372036854775807 < 5 + C1.size := by omega
  have z3' : ¬ 9223372036854775807 < (⟨#[116, 117, 98, 101, 46]⟩ : ByteArray).size + C1.size := z3
  have s3 : T1.size = 5 + C1.size := by rw [← hT1, ByteArray.size_append]; rfl
  obtain ⟨S2, hS2⟩ : ∃ x, T1 ++ D2 = x := ⟨_, rfl⟩
  have z4 : ¬ 9223372036854775807 < T1.size + D2.size := by omega
  obtain ⟨S6, hS6⟩ : ∃ x, (⟨#[116, 46]⟩ : ByteArray) ++ NM = x := ⟨_, rfl⟩
  have z6 : ¬ 9223372036854775807 < 2 + NM.size := by omega
  have z6' : ¬ 9223372036854775807 < (⟨#[116, 46]⟩ : ByteArray).size + NM.size := z6
  have c5 := fun w => r8wtext_any PN R C w
  have c5b : ∀ w, Calls Tryd.prog 9 #[.agg #[.string PN, .int .i64 R, .int .i64 C]] w fun e w' => e = .returned (.string (strB (wellT PN R C))) ∧ B w w' := fun w => (c5 w).mono fun e w' h => ⟨h.1, h.2.b⟩
  have ctx := fun w => wtext_any PN R C bR bC w
  have c9w : ∀ w, Calls Tryd.prog 9 #[.agg #[.string WN, .int .i64 r, .int .i64 c]] w fun e w' => e = .returned (.string (strB (wellT WN r c))) ∧ B w w' := fun w => (r8wtext_any WN r c w).mono fun e w' h => ⟨h.1, h.2.b⟩
  have ctw := fun w => wtext_any WN r c hr hc w
  obtain ⟨S5, hS5⟩ : ∃ x, strB (wellT PN R C) = x := ⟨_, rfl⟩
  have HS : Hid (∀ i, i < 7 → ∃ X, ([.string S0, .string S1, .string S2, .string ⟨#[116, 117, 98, 101, 46, 65]⟩, .string ⟨#[116, 117, 98, 101]⟩, .string S5, .string S6] : List Value)[i]? = some (.string (strB X)) ∧ X.length ≤ 65536) := Lib.hid (fun i hi => by
    have key : ∀ s : ByteArray, s.size ≤ 65536 → ∃ X, (some (Value.string s) = some (.string (strB X))) ∧ X.length ≤ 65536 := fun s hs => ⟨s.data.toList, rfl, by
      have e : s.data.toList.length = s.size := Array.length_toList
      omega⟩
    have : i = 0 ∨ i = 1 ∨ i = 2 ∨ i = 3 ∨ i = 4 ∨ i = 5 ∨ i = 6 := by omega
    rcases this with rfl | rfl | rfl | rfl | rfl | rfl | rfl
    · exact key _ (by omega)
    · exact key _ (by rw [← hS1, ByteArray.size_append]; omega)
    · exact key _ (by rw [← hS2, ByteArray.size_append]; omega)
    · exact key _ (by decide)
    · exact key _ (by decide)
    · exact key _ (by have := wellT_short PN R C; rw [← hS5, strB_size]; omega)
    · refine key _ ?_
      rw [← hS6, ByteArray.size_append]
      show 2 + NM.size ≤ 65536
      omega)
  simp only [hS5] at c5 c5b ctx
  clear hS5
  generalize strB (wellT WN r c) = S9 at *
  clear m8 hN hA hB16 hA10 hB15 d1e d2e d1s d2s s1 s3 c1s bR bC hr hc ha hb hn hC hD1 hD2
  subst hR
  go_enter Tryd.func3, Tryd.ntmps3
  go_wp2_with fail
  refine (ck _).mono ?_
  rintro _ w1 ⟨rfl, q1⟩
  have k0 : w1.cell? ⟨w.heap.size, 0, none⟩ = some (.string WN) := obj_cell (q1.obj oW) 0
  go_wp2_with fail
  generalize (A10 : Int) = R at *
  have oA := ((B.refl w1).alloc #[.string PN, .int .i64 R, .int .i64 C] 23).obj (q1.obj oW)
  have oE := obj_new w1 (.cells #[.string PN, .int .i64 R, .int .i64 C] 23)
  have qB := (q0.trans q1).alloc #[.string PN, .int .i64 R, .int .i64 C] 23
  generalize w1.alloc (.cells #[.string PN, .int .i64 R, .int .i64 C] 23) = W2 at *
  obtain ⟨E, hE⟩ : ∃ E, w.heap.size = E := ⟨_, rfl⟩
  obtain ⟨H, hH⟩ : ∃ H, w1.heap.size = H := ⟨_, rfl⟩
  rw [hE] at oA ⊢
  rw [hH] at oE ⊢
  clear hE hH q0 q1 oW k0 ck
  have p0 : W2.drew.cell? ⟨H, 0, none⟩ = some (.string PN) := obj_cell oE 0
  have p1 : W2.drew.cell? ⟨H, 1, none⟩ = some (.int .i64 R) := obj_cell oE 1
  have p2 : W2.drew.cell? ⟨H, 2, none⟩ = some (.int .i64 C) := obj_cell oE 2
  have p3 : W2.drew.cell? ⟨E, 0, none⟩ = some (.string WN) := obj_cell oA 0
  have p4 : W2.drew.cell? ⟨E, 1, none⟩ = some (.int .i64 r) := obj_cell oA 1
  have p5 : W2.drew.cell? ⟨E, 2, none⟩ = some (.int .i64 c) := obj_cell oA 2
  clear oA oE
  refine wp_region_noPanic ?_
  refine wp_region_slots [(0, 46), (1, 47), (2, 48), (3, 49), (4, 50), (5, 51), (6, 52), (7, 53), (8, 54), (9, 55), (10, 56), (11, 57), (12, 58), (13, 59), (14, 60), (15, 61), (16, 62), (17, 63), (18, 64), (19, 65), (20, 66), (21, 67), (22, 68), (23, 69), (24, 70), (25, 71)] [] [0, 0, 2, 0, 8, 16, 32, 68, 0, 256, 512, 1024, 2048, 4096, 0, 16384, 32768, 65600, 139264, 0, 655360, 0, 2097152, 5505153, 8388608, 0] [0, 0, 2, 0, 8, 16, 32, 68, 0, 256, 512, 1024, 2048, 4096, 0, 16384, 32768, 65536, 139264, 0, 524288, 0, 2097152, 5505153, 8388608, 0] [0, 0, 2, 0, 8, 24, 56, 126, 0, 256, 768, 1792, 3840, 7936, 0, 16384, 49152, 114808, 262008, 0, 770168, 0, 2097152, 8388607, 16777215, 0] 67108863 [(fun v _ => v = .string S0), (fun v _ => v = .string NM), (fun v _ => v = .string N1), (fun v _ => v = .int .u16 n), (fun v _ => v = .int .u16 (N20 : Int)), (fun v _ => v = .int .i64 (N20 : Int)), (fun v _ => v = .string D1), (fun v _ => v = .string S1), (fun v _ => v = .int .u8 a), (fun v _ => v = .int .u8 (A12 : Int)), (fun v _ => v = .int .u8 (65 + (A12 : Int))), (Lits 1 [.int .u8 (65 + (A12 : Int))]), (fun v _ => v = .string C1), (fun v _ => v = .string T1), (fun v _ => v = .int .u8 b), (fun v _ => v = .int .u8 (B16 : Int)), (fun v _ => v = .int .i64 (B16 : Int)), (fun v _ => v = .string D2), (fun v _ => v = .string S2), (fun v _ => v = .agg #[.string PN, .int .i64 R, .int .i64 C]), (fun v _ => v = .string S5), (fun v _ => v = .string NM), (fun v _ => v = .string S6), (Lits 7 [.string S0, .string S1, .string S2, .string ⟨#[116, 117, 98, 101, 46, 65]⟩, .string ⟨#[116, 117, 98, 101]⟩, .string S5, .string S6]), (fun v _ => v = .int .i64 7), (fun v _ => v = .int .i64 0)] (by kernel_rfl) (by kernel_rfl) (fun _ _ _ _ h => h) ⟨slot_val _, slot_val _, slot_val _, slot_val _, slot_val _, slot_val _, slot_val _, slot_val _, slot_val _, slot_val _, slot_val _, slot_lits _ _, slot_val _, slot_val _, slot_val _, slot_val _, slot_val _, slot_val _, slot_val _, slot_val _, slot_val _, slot_val _, slot_val _, slot_lits _ _, slot_val _, slot_val _, trivial⟩ ⟨?_, ?_, ?_, ?_, ?_, ?_, ?_, ?_, ?_, ?_, ?_, ?_, ?_, ?_, ?_, ?_, ?_, ?_, ?_, ?_, ?_, ?_, ?_, ?_, ?_, ?_, trivial⟩ ?_
  · intro f w' hf hB
    clear hf
    refine slot_op rfl (fun _ => rfl) (fun T hT K hK => ?_)
    simp only [putsL, List.set_cons_zero, List.set_cons_succ] at hT
    subst hT
    go_simp
    exact hK.out _ _ rfl (B.refl _)
  · intro f w' hf hB
    clear hf
    refine slot_op rfl (fun _ => rfl) (fun T hT K hK => ?_)
    simp only [putsL, List.set_cons_zero, List.set_cons_succ] at hT
    subst hT
    go_simp
    exact hK.out _ _ rfl (B.refl _)
  · intro f w' hf hB
    have h1 : slotOf [(fun v _ => v = .string S0), (fun v _ => v = .string NM), (fun v _ => v = .string N1), (fun v _ => v = .int .u16 n), (fun v _ => v = .int .u16 (N20 : Int)), (fun v _ => v = .int .i64 (N20 : Int)), (fun v _ => v = .string D1), (fun v _ => v = .string S1), (fun v _ => v = .int .u8 a), (fun v _ => v = .int .u8 (A12 : Int)), (fun v _ => v = .int .u8 (65 + (A12 : Int))), (Lits 1 [.int .u8 (65 + (A12 : Int))]), (fun v _ => v = .string C1), (fun v _ => v = .string T1), (fun v _ => v = .int .u8 b), (fun v _ => v = .int .u8 (B16 : Int)), (fun v _ => v = .int .i64 (B16 : Int)), (fun v _ => v = .string D2), (fun v _ => v = .string S2), (fun v _ => v = .agg #[.string PN, .int .i64 R, .int .i64 C]), (fun v _ => v = .string S5), (fun v _ => v = .string NM), (fun v _ => v = .string S6), (Lits 7 [.string S0, .string S1, .string S2, .string ⟨#[116, 117, 98, 101, 46, 65]⟩, .string ⟨#[116, 117, 98, 101]⟩, .string S5, .string S6]), (fun v _ => v = .int .i64 7), (fun v _ => v = .int .i64 0)] 1 (f 1) w' := hf (1, 47) (by simp) (by rfl)
    clear hf
    have e1 : f 1 = .string NM := h1
    refine slot_op rfl (fun _ => rfl) (fun T hT K hK => ?_)
    simp only [putsL, List.set_cons_zero, List.set_cons_succ, e1] at hT
    subst hT
    go_simp
    exact hK.out _ _ rfl (B.refl _)
  · intro f w' hf hB
    clear hf
    refine slot_op rfl (fun _ => rfl) (fun T hT K hK => ?_)
    simp only [putsL, List.set_cons_zero, List.set_cons_succ] at hT
    subst hT
    go_simp
    exact hK.out _ _ rfl (B.refl _)
  · intro f w' hf hB
    have h3 : slotOf [(fun v _ => v = .string S0), (fun v _ => v = .string NM), (fun v _ => v = .string N1), (fun v _ => v = .int .u16 n), (fun v _ => v = .int .u16 (N20 : Int)), (fun v _ => v = .int .i64 (N20 : Int)), (fun v _ => v = .string D1), (fun v _ => v = .string S1), (fun v _ => v = .int .u8 a), (fun v _ => v = .int .u8 (A12 : Int)), (fun v _ => v = .int .u8 (65 + (A12 : Int))), (Lits 1 [.int .u8 (65 + (A12 : Int))]), (fun v _ => v = .string C1), (fun v _ => v = .string T1), (fun v _ => v = .int .u8 b), (fun v _ => v = .int .u8 (B16 : Int)), (fun v _ => v = .int .i64 (B16 : Int)), (fun v _ => v = .string D2), (fun v _ => v = .string S2), (fun v _ => v = .agg #[.string PN, .int .i64 R, .int .i64 C]), (fun v _ => v = .string S5), (fun v _ => v = .string NM), (fun v _ => v = .string S6), (Lits 7 [.string S0, .string S1, .string S2, .string ⟨#[116, 117, 98, 101, 46, 65]⟩, .string ⟨#[116, 117, 98, 101]⟩, .string S5, .string S6]), (fun v _ => v = .int .i64 7), (fun v _ => v = .int .i64 0)] 3 (f 3) w' := hf (3, 49) (by simp) (by rfl)
    clear hf
    have e3 : f 3 = .int .u16 n := h3
    refine slot_op rfl (fun _ => rfl) (fun T hT K hK => ?_)
    simp only [putsL, List.set_cons_zero, List.set_cons_succ, e3] at hT
    subst hT
    go_simp
    exact hK.out _ _ rfl (B.refl _)
  · intro f w' hf hB
    have h4 : slotOf [(fun v _ => v = .string S0), (fun v _ => v = .string NM), (fun v _ => v = .string N1), (fun v _ => v = .int .u16 n), (fun v _ => v = .int .u16 (N20 : Int)), (fun v _ => v = .int .i64 (N20 : Int)), (fun v _ => v = .string D1), (fun v _ => v = .string S1), (fun v _ => v = .int .u8 a), (fun v _ => v = .int .u8 (A12 : Int)), (fun v _ => v = .int .u8 (65 + (A12 : Int))), (Lits 1 [.int .u8 (65 + (A12 : Int))]), (fun v _ => v = .string C1), (fun v _ => v = .string T1), (fun v _ => v = .int .u8 b), (fun v _ => v = .int .u8 (B16 : Int)), (fun v _ => v = .int .i64 (B16 : Int)), (fun v _ => v = .string D2), (fun v _ => v = .string S2), (fun v _ => v = .agg #[.string PN, .int .i64 R, .int .i64 C]), (fun v _ => v = .string S5), (fun v _ => v = .string NM), (fun v _ => v = .string S6), (Lits 7 [.string S0, .string S1, .string S2, .string ⟨#[116, 117, 98, 101, 46, 65]⟩, .string ⟨#[116, 117, 98, 101]⟩, .string S5, .string S6]), (fun v _ => v = .int .i64 7), (fun v _ => v = .int .i64 0)] 4 (f 4) w' := hf (4, 50) (by simp) (by rfl)
    clear hf
    have e4 : f 4 = .int .u16 (N20 : Int) := h4
    refine slot_op rfl (fun _ => rfl) (fun T hT K hK => ?_)
    simp only [putsL, List.set_cons_zero, List.set_cons_succ, e4] at hT
    subst hT
    go_simp
    exact hK.out _ _ rfl (B.refl _)
  · intro f w' hf hB
    have h5 : slotOf [(fun v _ => v = .string S0), (fun v _ => v = .string NM), (fun v _ => v = .string N1), (fun v _ => v = .int .u16 n), (fun v _ => v = .int .u16 (N20 : Int)), (fun v _ => v = .int .i64 (N20 : Int)), (fun v _ => v = .string D1), (fun v _ => v = .string S1), (fun v _ => v = .int .u8 a), (fun v _ => v = .int .u8 (A12 : Int)), (fun v _ => v = .int .u8 (65 + (A12 : Int))), (Lits 1 [.int .u8 (65 + (A12 : Int))]), (fun v _ => v = .string C1), (fun v _ => v = .string T1), (fun v _ => v = .int .u8 b), (fun v _ => v = .int .u8 (B16 : Int)), (fun v _ => v = .int .i64 (B16 : Int)), (fun v _ => v = .string D2), (fun v _ => v = .string S2), (fun v _ => v = .agg #[.string PN, .int .i64 R, .int .i64 C]), (fun v _ => v = .string S5), (fun v _ => v = .string NM), (fun v _ => v = .string S6), (Lits 7 [.string S0, .string S1, .string S2, .string ⟨#[116, 117, 98, 101, 46, 65]⟩, .string ⟨#[116, 117, 98, 101]⟩, .string S5, .string S6]), (fun v _ => v = .int .i64 7), (fun v _ => v = .int .i64 0)] 5 (f 5) w' := hf (5, 51) (by simp) (by rfl)
    clear hf
    have e5 : f 5 = .int .i64 (N20 : Int) := h5
    refine slot_op rfl (fun _ => rfl) (fun T hT K hK => ?_)
    simp only [putsL, List.set_cons_zero, List.set_cons_succ, e5] at hT
    subst hT
    go_simp
    (with_reducible refine (cd1 _).mono ?_)
    rintro e w2 ⟨rfl, rfl⟩
    exact hK.out _ _ rfl (B.refl _)
  · intro f w' hf hB
    have h2 : slotOf [(fun v _ => v = .string S0), (fun v _ => v = .string NM), (fun v _ => v = .string N1), (fun v _ => v = .int .u16 n), (fun v _ => v = .int .u16 (N20 : Int)), (fun v _ => v = .int .i64 (N20 : Int)), (fun v _ => v = .string D1), (fun v _ => v = .string S1), (fun v _ => v = .int .u8 a), (fun v _ => v = .int .u8 (A12 : Int)), (fun v _ => v = .int .u8 (65 + (A12 : Int))), (Lits 1 [.int .u8 (65 + (A12 : Int))]), (fun v _ => v = .string C1), (fun v _ => v = .string T1), (fun v _ => v = .int .u8 b), (fun v _ => v = .int .u8 (B16 : Int)), (fun v _ => v = .int .i64 (B16 : Int)), (fun v _ => v = .string D2), (fun v _ => v = .string S2), (fun v _ => v = .agg #[.string PN, .int .i64 R, .int .i64 C]), (fun v _ => v = .string S5), (fun v _ => v = .string NM), (fun v _ => v = .string S6), (Lits 7 [.string S0, .string S1, .string S2, .string ⟨#[116, 117, 98, 101, 46, 65]⟩, .string ⟨#[116, 117, 98, 101]⟩, .string S5, .string S6]), (fun v _ => v = .int .i64 7), (fun v _ => v = .int .i64 0)] 2 (f 2) w' := hf (2, 48) (by simp) (by rfl)
    have h6 : slotOf [(fun v _ => v = .string S0), (fun v _ => v = .string NM), (fun v _ => v = .string N1), (fun v _ => v = .int .u16 n), (fun v _ => v = .int .u16 (N20 : Int)), (fun v _ => v = .int .i64 (N20 : Int)), (fun v _ => v = .string D1), (fun v _ => v = .string S1), (fun v _ => v = .int .u8 a), (fun v _ => v = .int .u8 (A12 : Int)), (fun v _ => v = .int .u8 (65 + (A12 : Int))), (Lits 1 [.int .u8 (65 + (A12 : Int))]), (fun v _ => v = .string C1), (fun v _ => v = .string T1), (fun v _ => v = .int .u8 b), (fun v _ => v = .int .u8 (B16 : Int)), (fun v _ => v = .int .i64 (B16 : Int)), (fun v _ => v = .string D2), (fun v _ => v = .string S2), (fun v _ => v = .agg #[.string PN, .int .i64 R, .int .i64 C]), (fun v _ => v = .string S5), (fun v _ => v = .string NM), (fun v _ => v = .string S6), (Lits 7 [.string S0, .string S1, .string S2, .string ⟨#[116, 117, 98, 101, 46, 65]⟩, .string ⟨#[116, 117, 98, 101]⟩, .string S5, .string S6]), (fun v _ => v = .int .i64 7), (fun v _ => v = .int .i64 0)] 6 (f 6) w' := hf (6, 52) (by simp) (by rfl)
    clear hf
    have e2 : f 2 = .string N1 := h2
    have e6 : f 6 = .string D1 := h6
    refine slot_op rfl (fun _ => rfl) (fun T hT K hK => ?_)
    simp only [putsL, List.set_cons_zero, List.set_cons_succ, e2, e6] at hT
    subst hT
    go_simp
    exact hK.out _ _ rfl (B.refl _)
  · intro f w' hf hB
    clear hf
    refine slot_op rfl (fun _ => rfl) (fun T hT K hK => ?_)
    simp only [putsL, List.set_cons_zero, List.set_cons_succ] at hT
    subst hT
    go_simp
    exact hK.out _ _ rfl (B.refl _)
  · intro f w' hf hB
    have h8 : slotOf [(fun v _ => v = .string S0), (fun v _ => v = .string NM), (fun v _ => v = .string N1), (fun v _ => v = .int .u16 n), (fun v _ => v = .int .u16 (N20 : Int)), (fun v _ => v = .int .i64 (N20 : Int)), (fun v _ => v = .string D1), (fun v _ => v = .string S1), (fun v _ => v = .int .u8 a), (fun v _ => v = .int .u8 (A12 : Int)), (fun v _ => v = .int .u8 (65 + (A12 : Int))), (Lits 1 [.int .u8 (65 + (A12 : Int))]), (fun v _ => v = .string C1), (fun v _ => v = .string T1), (fun v _ => v = .int .u8 b), (fun v _ => v = .int .u8 (B16 : Int)), (fun v _ => v = .int .i64 (B16 : Int)), (fun v _ => v = .string D2), (fun v _ => v = .string S2), (fun v _ => v = .agg #[.string PN, .int .i64 R, .int .i64 C]), (fun v _ => v = .string S5), (fun v _ => v = .string NM), (fun v _ => v = .string S6), (Lits 7 [.string S0, .string S1, .string S2, .string ⟨#[116, 117, 98, 101, 46, 65]⟩, .string ⟨#[116, 117, 98, 101]⟩, .string S5, .string S6]), (fun v _ => v = .int .i64 7), (fun v _ => v = .int .i64 0)] 8 (f 8) w' := hf (8, 54) (by simp) (by rfl)
    clear hf
    have e8 : f 8 = .int .u8 a := h8
    refine slot_op rfl (fun _ => rfl) (fun T hT K hK => ?_)
    simp only [putsL, List.set_cons_zero, List.set_cons_succ, e8] at hT
    subst hT
    go_simp
    exact hK.out _ _ rfl (B.refl _)
  · intro f w' hf hB
    have h9 : slotOf [(fun v _ => v = .string S0), (fun v _ => v = .string NM), (fun v _ => v = .string N1), (fun v _ => v = .int .u16 n), (fun v _ => v = .int .u16 (N20 : Int)), (fun v _ => v = .int .i64 (N20 : Int)), (fun v _ => v = .string D1), (fun v _ => v = .string S1), (fun v _ => v = .int .u8 a), (fun v _ => v = .int .u8 (A12 : Int)), (fun v _ => v = .int .u8 (65 + (A12 : Int))), (Lits 1 [.int .u8 (65 + (A12 : Int))]), (fun v _ => v = .string C1), (fun v _ => v = .string T1), (fun v _ => v = .int .u8 b), (fun v _ => v = .int .u8 (B16 : Int)), (fun v _ => v = .int .i64 (B16 : Int)), (fun v _ => v = .string D2), (fun v _ => v = .string S2), (fun v _ => v = .agg #[.string PN, .int .i64 R, .int .i64 C]), (fun v _ => v = .string S5), (fun v _ => v = .string NM), (fun v _ => v = .string S6), (Lits 7 [.string S0, .string S1, .string S2, .string ⟨#[116, 117, 98, 101, 46, 65]⟩, .string ⟨#[116, 117, 98, 101]⟩, .string S5, .string S6]), (fun v _ => v = .int .i64 7), (fun v _ => v = .int .i64 0)] 9 (f 9) w' := hf (9, 55) (by simp) (by rfl)
    clear hf
    have e9 : f 9 = .int .u8 (A12 : Int) := h9
    refine slot_op rfl (fun _ => rfl) (fun T hT K hK => ?_)
    simp only [putsL, List.set_cons_zero, List.set_cons_succ, e9] at hT
    subst hT
    go_simp
    exact hK.out _ _ rfl (B.refl _)
  · intro f w' hf hB
    have h10 : slotOf [(fun v _ => v = .string S0), (fun v _ => v = .string NM), (fun v _ => v = .string N1), (fun v _ => v = .int .u16 n), (fun v _ => v = .int .u16 (N20 : Int)), (fun v _ => v = .int .i64 (N20 : Int)), (fun v _ => v = .string D1), (fun v _ => v = .string S1), (fun v _ => v = .int .u8 a), (fun v _ => v = .int .u8 (A12 : Int)), (fun v _ => v = .int .u8 (65 + (A12 : Int))), (Lits 1 [.int .u8 (65 + (A12 : Int))]), (fun v _ => v = .string C1), (fun v _ => v = .string T1), (fun v _ => v = .int .u8 b), (fun v _ => v = .int .u8 (B16 : Int)), (fun v _ => v = .int .i64 (B16 : Int)), (fun v _ => v = .string D2), (fun v _ => v = .string S2), (fun v _ => v = .agg #[.string PN, .int .i64 R, .int .i64 C]), (fun v _ => v = .string S5), (fun v _ => v = .string NM), (fun v _ => v = .string S6), (Lits 7 [.string S0, .string S1, .string S2, .string ⟨#[116, 117, 98, 101, 46, 65]⟩, .string ⟨#[116, 117, 98, 101]⟩, .string S5, .string S6]), (fun v _ => v = .int .i64 7), (fun v _ => v = .int .i64 0)] 10 (f 10) w' := hf (10, 56) (by simp) (by rfl)
    clear hf
    have e10 : f 10 = .int .u8 (65 + (A12 : Int)) := h10
    refine slot_op rfl (fun _ => rfl) (fun T hT K hK => ?_)
    simp only [putsL, List.set_cons_zero, List.set_cons_succ, e10] at hT
    subst hT
    go_simp
    refine hK.out _ _ ⟨_, rfl, fun j u hj => ?_⟩ ((B.refl _).alloc _ _)
    rw [World.cell?_alloc_new]
    simpa using hj
  · intro f w' hf hB
    have h11 : slotOf [(fun v _ => v = .string S0), (fun v _ => v = .string NM), (fun v _ => v = .string N1), (fun v _ => v = .int .u16 n), (fun v _ => v = .int .u16 (N20 : Int)), (fun v _ => v = .int .i64 (N20 : Int)), (fun v _ => v = .string D1), (fun v _ => v = .string S1), (fun v _ => v = .int .u8 a), (fun v _ => v = .int .u8 (A12 : Int)), (fun v _ => v = .int .u8 (65 + (A12 : Int))), (Lits 1 [.int .u8 (65 + (A12 : Int))]), (fun v _ => v = .string C1), (fun v _ => v = .string T1), (fun v _ => v = .int .u8 b), (fun v _ => v = .int .u8 (B16 : Int)), (fun v _ => v = .int .i64 (B16 : Int)), (fun v _ => v = .string D2), (fun v _ => v = .string S2), (fun v _ => v = .agg #[.string PN, .int .i64 R, .int .i64 C]), (fun v _ => v = .string S5), (fun v _ => v = .string NM), (fun v _ => v = .string S6), (Lits 7 [.string S0, .string S1, .string S2, .string ⟨#[116, 117, 98, 101, 46, 65]⟩, .string ⟨#[116, 117, 98, 101]⟩, .string S5, .string S6]), (fun v _ => v = .int .i64 7), (fun v _ => v = .int .i64 0)] 11 (f 11) w' := hf (11, 57) (by simp) (by rfl)
    clear hf
    obtain ⟨bb, e11, hc⟩ := h11
    have hcv := run_convert_bytes_arg (P := Tryd.prog) w' 27 5 Tryd.underlying27 Tryd.underlying5 bb 0 1 1 [65 + (A12 : Int)] rfl (fun j hj => by have e : j = 0 := (by omega); subst e; exact hc 0 _ rfl) 9 Tryd.underlying9
    rw [hC1] at hcv
    refine slot_op rfl (fun _ => rfl) (fun T hT K hK => ?_)
    simp only [putsL, List.set_cons_zero, List.set_cons_succ, e11] at hT
    subst hT
    go_simp
    exact hK.out _ _ rfl (B.refl _)
  · intro f w' hf hB
    have h12 : slotOf [(fun v _ => v = .string S0), (fun v _ => v = .string NM), (fun v _ => v = .string N1), (fun v _ => v = .int .u16 n), (fun v _ => v = .int .u16 (N20 : Int)), (fun v _ => v = .int .i64 (N20 : Int)), (fun v _ => v = .string D1), (fun v _ => v = .string S1), (fun v _ => v = .int .u8 a), (fun v _ => v = .int .u8 (A12 : Int)), (fun v _ => v = .int .u8 (65 + (A12 : Int))), (Lits 1 [.int .u8 (65 + (A12 : Int))]), (fun v _ => v = .string C1), (fun v _ => v = .string T1), (fun v _ => v = .int .u8 b), (fun v _ => v = .int .u8 (B16 : Int)), (fun v _ => v = .int .i64 (B16 : Int)), (fun v _ => v = .string D2), (fun v _ => v = .string S2), (fun v _ => v = .agg #[.string PN, .int .i64 R, .int .i64 C]), (fun v _ => v = .string S5), (fun v _ => v = .string NM), (fun v _ => v = .string S6), (Lits 7 [.string S0, .string S1, .string S2, .string ⟨#[116, 117, 98, 101, 46, 65]⟩, .string ⟨#[116, 117, 98, 101]⟩, .string S5, .string S6]), (fun v _ => v = .int .i64 7), (fun v _ => v = .int .i64 0)] 12 (f 12) w' := hf (12, 58) (by simp) (by rfl)
    clear hf
    have e12 : f 12 = .string C1 := h12
    refine slot_op rfl (fun _ => rfl) (fun T hT K hK => ?_)
    simp only [putsL, List.set_cons_zero, List.set_cons_succ, e12] at hT
    subst hT
    go_simp
    exact hK.out _ _ rfl (B.refl _)
  · intro f w' hf hB
    clear hf
    refine slot_op rfl (fun _ => rfl) (fun T hT K hK => ?_)
    simp only [putsL, List.set_cons_zero, List.set_cons_succ] at hT
    subst hT
    go_simp
    exact hK.out _ _ rfl (B.refl _)
  · intro f w' hf hB
    have h14 : slotOf [(fun v _ => v = .string S0), (fun v _ => v = .string NM), (fun v _ => v = .string N1), (fun v _ => v = .int .u16 n), (fun v _ => v = .int .u16 (N20 : Int)), (fun v _ => v = .int .i64 (N20 : Int)), (fun v _ => v = .string D1), (fun v _ => v = .string S1), (fun v _ => v = .int .u8 a), (fun v _ => v = .int .u8 (A12 : Int)), (fun v _ => v = .int .u8 (65 + (A12 : Int))), (Lits 1 [.int .u8 (65 + (A12 : Int))]), (fun v _ => v = .string C1), (fun v _ => v = .string T1), (fun v _ => v = .int .u8 b), (fun v _ => v = .int .u8 (B16 : Int)), (fun v _ => v = .int .i64 (B16 : Int)), (fun v _ => v = .string D2), (fun v _ => v = .string S2), (fun v _ => v = .agg #[.string PN, .int .i64 R, .int .i64 C]), (fun v _ => v = .string S5), (fun v _ => v = .string NM), (fun v _ => v = .string S6), (Lits 7 [.string S0, .string S1, .string S2, .string ⟨#[116, 117, 98, 101, 46, 65]⟩, .string ⟨#[116, 117, 98, 101]⟩, .string S5, .string S6]), (fun v _ => v = .int .i64 7), (fun v _ => v = .int .i64 0)] 14 (f 14) w' := hf (14, 60) (by simp) (by rfl)
    clear hf
    have e14 : f 14 = .int .u8 b := h14
    refine slot_op rfl (fun _ => rfl) (fun T hT K hK => ?_)
    simp only [putsL, List.set_cons_zero, List.set_cons_succ, e14] at hT
    subst hT
    go_simp
    exact hK.out _ _ rfl (B.refl _)
  · intro f w' hf hB
    have h15 : slotOf [(fun v _ => v = .string S0), (fun v _ => v = .string NM), (fun v _ => v = .string N1), (fun v _ => v = .int .u16 n), (fun v _ => v = .int .u16 (N20 : Int)), (fun v _ => v = .int .i64 (N20 : Int)), (fun v _ => v = .string D1), (fun v _ => v = .string S1), (fun v _ => v = .int .u8 a), (fun v _ => v = .int .u8 (A12 : Int)), (fun v _ => v = .int .u8 (65 + (A12 : Int))), (Lits 1 [.int .u8 (65 + (A12 : Int))]), (fun v _ => v = .string C1), (fun v _ => v = .string T1), (fun v _ => v = .int .u8 b), (fun v _ => v = .int .u8 (B16 : Int)), (fun v _ => v = .int .i64 (B16 : Int)), (fun v _ => v = .string D2), (fun v _ => v = .string S2), (fun v _ => v = .agg #[.string PN, .int .i64 R, .int .i64 C]), (fun v _ => v = .string S5), (fun v _ => v = .string NM), (fun v _ => v = .string S6), (Lits 7 [.string S0, .string S1, .string S2, .string ⟨#[116, 117, 98, 101, 46, 65]⟩, .string ⟨#[116, 117, 98, 101]⟩, .string S5, .string S6]), (fun v _ => v = .int .i64 7), (fun v _ => v = .int .i64 0)] 15 (f 15) w' := hf (15, 61) (by simp) (by rfl)
    clear hf
    have e15 : f 15 = .int .u8 (B16 : Int) := h15
    refine slot_op rfl (fun _ => rfl) (fun T hT K hK => ?_)
    simp only [putsL, List.set_cons_zero, List.set_cons_succ, e15] at hT
    subst hT
    go_simp
    exact hK.out _ _ rfl (B.refl _)
  · intro f w' hf hB
    have h16 : slotOf [(fun v _ => v = .string S0), (fun v _ => v = .string NM), (fun v _ => v = .string N1), (fun v _ => v = .int .u16 n), (fun v _ => v = .int .u16 (N20 : Int)), (fun v _ => v = .int .i64 (N20 : Int)), (fun v _ => v = .string D1), (fun v _ => v = .string S1), (fun v _ => v = .int .u8 a), (fun v _ => v = .int .u8 (A12 : Int)), (fun v _ => v = .int .u8 (65 + (A12 : Int))), (Lits 1 [.int .u8 (65 + (A12 : Int))]), (fun v _ => v = .string C1), (fun v _ => v = .string T1), (fun v _ => v = .int .u8 b), (fun v _ => v = .int .u8 (B16 : Int)), (fun v _ => v = .int .i64 (B16 : Int)), (fun v _ => v = .string D2), (fun v _ => v = .string S2), (fun v _ => v = .agg #[.string PN, .int .i64 R, .int .i64 C]), (fun v _ => v = .string S5), (fun v _ => v = .string NM), (fun v _ => v = .string S6), (Lits 7 [.string S0, .string S1, .string S2, .string ⟨#[116, 117, 98, 101, 46, 65]⟩, .string ⟨#[116, 117, 98, 101]⟩, .string S5, .string S6]), (fun v _ => v = .int .i64 7), (fun v _ => v = .int .i64 0)] 16 (f 16) w' := hf (16, 62) (by simp) (by rfl)
    clear hf
    have e16 : f 16 = .int .i64 (B16 : Int) := h16
    refine slot_op rfl (fun _ => rfl) (fun T hT K hK => ?_)
    simp only [putsL, List.set_cons_zero, List.set_cons_succ, e16] at hT
    subst hT
    go_simp
    (with_reducible refine (cd2 _).mono ?_)
    rintro e w2 ⟨rfl, rfl⟩
    exact hK.out _ _ rfl (B.refl _)
  · intro f w' hf hB
    have h13 : slotOf [(fun v _ => v = .string S0), (fun v _ => v = .string NM), (fun v _ => v = .string N1), (fun v _ => v = .int .u16 n), (fun v _ => v = .int .u16 (N20 : Int)), (fun v _ => v = .int .i64 (N20 : Int)), (fun v _ => v = .string D1), (fun v _ => v = .string S1), (fun v _ => v = .int .u8 a), (fun v _ => v = .int .u8 (A12 : Int)), (fun v _ => v = .int .u8 (65 + (A12 : Int))), (Lits 1 [.int .u8 (65 + (A12 : Int))]), (fun v _ => v = .string C1), (fun v _ => v = .string T1), (fun v _ => v = .int .u8 b), (fun v _ => v = .int .u8 (B16 : Int)), (fun v _ => v = .int .i64 (B16 : Int)), (fun v _ => v = .string D2), (fun v _ => v = .string S2), (fun v _ => v = .agg #[.string PN, .int .i64 R, .int .i64 C]), (fun v _ => v = .string S5), (fun v _ => v = .string NM), (fun v _ => v = .string S6), (Lits 7 [.string S0, .string S1, .string S2, .string ⟨#[116, 117, 98, 101, 46, 65]⟩, .string ⟨#[116, 117, 98, 101]⟩, .string S5, .string S6]), (fun v _ => v = .int .i64 7), (fun v _ => v = .int .i64 0)] 13 (f 13) w' := hf (13, 59) (by simp) (by rfl)
    have h17 : slotOf [(fun v _ => v = .string S0), (fun v _ => v = .string NM), (fun v _ => v = .string N1), (fun v _ => v = .int .u16 n), (fun v _ => v = .int .u16 (N20 : Int)), (fun v _ => v = .int .i64 (N20 : Int)), (fun v _ => v = .string D1), (fun v _ => v = .string S1), (fun v _ => v = .int .u8 a), (fun v _ => v = .int .u8 (A12 : Int)), (fun v _ => v = .int .u8 (65 + (A12 : Int))), (Lits 1 [.int .u8 (65 + (A12 : Int))]), (fun v _ => v = .string C1), (fun v _ => v = .string T1), (fun v _ => v = .int .u8 b), (fun v _ => v = .int .u8 (B16 : Int)), (fun v _ => v = .int .i64 (B16 : Int)), (fun v _ => v = .string D2), (fun v _ => v = .string S2), (fun v _ => v = .agg #[.string PN, .int .i64 R, .int .i64 C]), (fun v _ => v = .string S5), (fun v _ => v = .string NM), (fun v _ => v = .string S6), (Lits 7 [.string S0, .string S1, .string S2, .string ⟨#[116, 117, 98, 101, 46, 65]⟩, .string ⟨#[116, 117, 98, 101]⟩, .string S5, .string S6]), (fun v _ => v = .int .i64 7), (fun v _ => v = .int .i64 0)] 17 (f 17) w' := hf (17, 63) (by simp) (by rfl)
    clear hf
    have e13 : f 13 = .string T1 := h13
    have e17 : f 17 = .string D2 := h17
    refine slot_op rfl (fun _ => rfl) (fun T hT K hK => ?_)
    simp only [putsL, List.set_cons_zero, List.set_cons_succ, e13, e17] at hT
    subst hT
    go_simp
    exact hK.out _ _ rfl (B.refl _)
  · intro f w' hf hB
    clear hf
    have k0 := hB.keep p0
    have k1 := hB.keep p1
    have k2 := hB.keep p2
    refine slot_op rfl (fun _ => rfl) (fun T hT K hK => ?_)
    simp only [putsL, List.set_cons_zero, List.set_cons_succ] at hT
    subst hT
    go_simp
    exact hK.out _ _ rfl (B.refl _)
  · intro f w' hf hB
    have h19 : slotOf [(fun v _ => v = .string S0), (fun v _ => v = .string NM), (fun v _ => v = .string N1), (fun v _ => v = .int .u16 n), (fun v _ => v = .int .u16 (N20 : Int)), (fun v _ => v = .int .i64 (N20 : Int)), (fun v _ => v = .string D1), (fun v _ => v = .string S1), (fun v _ => v = .int .u8 a), (fun v _ => v = .int .u8 (A12 : Int)), (fun v _ => v = .int .u8 (65 + (A12 : Int))), (Lits 1 [.int .u8 (65 + (A12 : Int))]), (fun v _ => v = .string C1), (fun v _ => v = .string T1), (fun v _ => v = .int .u8 b), (fun v _ => v = .int .u8 (B16 : Int)), (fun v _ => v = .int .i64 (B16 : Int)), (fun v _ => v = .string D2), (fun v _ => v = .string S2), (fun v _ => v = .agg #[.string PN, .int .i64 R, .int .i64 C]), (fun v _ => v = .string S5), (fun v _ => v = .string NM), (fun v _ => v = .string S6), (Lits 7 [.string S0, .string S1, .string S2, .string ⟨#[116, 117, 98, 101, 46, 65]⟩, .string ⟨#[116, 117, 98, 101]⟩, .string S5, .string S6]), (fun v _ => v = .int .i64 7), (fun v _ => v = .int .i64 0)] 19 (f 19) w' := hf (19, 65) (by simp) (by rfl)
    clear hf
    have e19 : f 19 = .agg #[.string PN, .int .i64 R, .int .i64 C] := h19
    refine slot_op rfl (fun _ => rfl) (fun T hT K hK => ?_)
    simp only [putsL, List.set_cons_zero, List.set_cons_succ, e19] at hT
    subst hT
    go_simp
    (with_reducible refine (c5 _).mono ?_)
    rintro e w2 ⟨rfl, q⟩
    exact hK.out _ _ rfl q.b
  · intro f w' hf hB
    clear hf
    refine slot_op rfl (fun _ => rfl) (fun T hT K hK => ?_)
    simp only [putsL, List.set_cons_zero, List.set_cons_succ] at hT
    subst hT
    go_simp
    exact hK.out _ _ rfl (B.refl _)
  · intro f w' hf hB
    have h21 : slotOf [(fun v _ => v = .string S0), (fun v _ => v = .string NM), (fun v _ => v = .string N1), (fun v _ => v = .int .u16 n), (fun v _ => v = .int .u16 (N20 : Int)), (fun v _ => v = .int .i64 (N20 : Int)), (fun v _ => v = .string D1), (fun v _ => v = .string S1), (fun v _ => v = .int .u8 a), (fun v _ => v = .int .u8 (A12 : Int)), (fun v _ => v = .int .u8 (65 + (A12 : Int))), (Lits 1 [.int .u8 (65 + (A12 : Int))]), (fun v _ => v = .string C1), (fun v _ => v = .string T1), (fun v _ => v = .int .u8 b), (fun v _ => v = .int .u8 (B16 : Int)), (fun v _ => v = .int .i64 (B16 : Int)), (fun v _ => v = .string D2), (fun v _ => v = .string S2), (fun v _ => v = .agg #[.string PN, .int .i64 R, .int .i64 C]), (fun v _ => v = .string S5), (fun v _ => v = .string NM), (fun v _ => v = .string S6), (Lits 7 [.string S0, .string S1, .string S2, .string ⟨#[116, 117, 98, 101, 46, 65]⟩, .string ⟨#[116, 117, 98, 101]⟩, .string S5, .string S6]), (fun v _ => v = .int .i64 7), (fun v _ => v = .int .i64 0)] 21 (f 21) w' := hf (21, 67) (by simp) (by rfl)
    clear hf
    have e21 : f 21 = .string NM := h21
    refine slot_op rfl (fun _ => rfl) (fun T hT K hK => ?_)
    simp only [putsL, List.set_cons_zero, List.set_cons_succ, e21] at hT
    subst hT
    go_simp
    exact hK.out _ _ rfl (B.refl _)
  · intro f w' hf hB
    have h0 : slotOf [(fun v _ => v = .string S0), (fun v _ => v = .string NM), (fun v _ => v = .string N1), (fun v _ => v = .int .u16 n), (fun v _ => v = .int .u16 (N20 : Int)), (fun v _ => v = .int .i64 (N20 : Int)), (fun v _ => v = .string D1), (fun v _ => v = .string S1), (fun v _ => v = .int .u8 a), (fun v _ => v = .int .u8 (A12 : Int)), (fun v _ => v = .int .u8 (65 + (A12 : Int))), (Lits 1 [.int .u8 (65 + (A12 : Int))]), (fun v _ => v = .string C1), (fun v _ => v = .string T1), (fun v _ => v = .int .u8 b), (fun v _ => v = .int .u8 (B16 : Int)), (fun v _ => v = .int .i64 (B16 : Int)), (fun v _ => v = .string D2), (fun v _ => v = .string S2), (fun v _ => v = .agg #[.string PN, .int .i64 R, .int .i64 C]), (fun v _ => v = .string S5), (fun v _ => v = .string NM), (fun v _ => v = .string S6), (Lits 7 [.string S0, .string S1, .string S2, .string ⟨#[116, 117, 98, 101, 46, 65]⟩, .string ⟨#[116, 117, 98, 101]⟩, .string S5, .string S6]), (fun v _ => v = .int .i64 7), (fun v _ => v = .int .i64 0)] 0 (f 0) w' := hf (0, 46) (by simp) (by rfl)
    have h7 : slotOf [(fun v _ => v = .string S0), (fun v _ => v = .string NM), (fun v _ => v = .string N1), (fun v _ => v = .int .u16 n), (fun v _ => v = .int .u16 (N20 : Int)), (fun v _ => v = .int .i64 (N20 : Int)), (fun v _ => v = .string D1), (fun v _ => v = .string S1), (fun v _ => v = .int .u8 a), (fun v _ => v = .int .u8 (A12 : Int)), (fun v _ => v = .int .u8 (65 + (A12 : Int))), (Lits 1 [.int .u8 (65 + (A12 : Int))]), (fun v _ => v = .string C1), (fun v _ => v = .string T1), (fun v _ => v = .int .u8 b), (fun v _ => v = .int .u8 (B16 : Int)), (fun v _ => v = .int .i64 (B16 : Int)), (fun v _ => v = .string D2), (fun v _ => v = .string S2), (fun v _ => v = .agg #[.string PN, .int .i64 R, .int .i64 C]), (fun v _ => v = .string S5), (fun v _ => v = .string NM), (fun v _ => v = .string S6), (Lits 7 [.string S0, .string S1, .string S2, .string ⟨#[116, 117, 98, 101, 46, 65]⟩, .string ⟨#[116, 117, 98, 101]⟩, .string S5, .string S6]), (fun v _ => v = .int .i64 7), (fun v _ => v = .int .i64 0)] 7 (f 7) w' := hf (7, 53) (by simp) (by rfl)
    have h18 : slotOf [(fun v _ => v = .string S0), (fun v _ => v = .string NM), (fun v _ => v = .string N1), (fun v _ => v = .int .u16 n), (fun v _ => v = .int .u16 (N20 : Int)), (fun v _ => v = .int .i64 (N20 : Int)), (fun v _ => v = .string D1), (fun v _ => v = .string S1), (fun v _ => v = .int .u8 a), (fun v _ => v = .int .u8 (A12 : Int)), (fun v _ => v = .int .u8 (65 + (A12 : Int))), (Lits 1 [.int .u8 (65 + (A12 : Int))]), (fun v _ => v = .string C1), (fun v _ => v = .string T1), (fun v _ => v = .int .u8 b), (fun v _ => v = .int .u8 (B16 : Int)), (fun v _ => v = .int .i64 (B16 : Int)), (fun v _ => v = .string D2), (fun v _ => v = .string S2), (fun v _ => v = .agg #[.string PN, .int .i64 R, .int .i64 C]), (fun v _ => v = .string S5), (fun v _ => v = .string NM), (fun v _ => v = .string S6), (Lits 7 [.string S0, .string S1, .string S2, .string ⟨#[116, 117, 98, 101, 46, 65]⟩, .string ⟨#[116, 117, 98, 101]⟩, .string S5, .string S6]), (fun v _ => v = .int .i64 7), (fun v _ => v = .int .i64 0)] 18 (f 18) w' := hf (18, 64) (by simp) (by rfl)
    have h20 : slotOf [(fun v _ => v = .string S0), (fun v _ => v = .string NM), (fun v _ => v = .string N1), (fun v _ => v = .int .u16 n), (fun v _ => v = .int .u16 (N20 : Int)), (fun v _ => v = .int .i64 (N20 : Int)), (fun v _ => v = .string D1), (fun v _ => v = .string S1), (fun v _ => v = .int .u8 a), (fun v _ => v = .int .u8 (A12 : Int)), (fun v _ => v = .int .u8 (65 + (A12 : Int))), (Lits 1 [.int .u8 (65 + (A12 : Int))]), (fun v _ => v = .string C1), (fun v _ => v = .string T1), (fun v _ => v = .int .u8 b), (fun v _ => v = .int .u8 (B16 : Int)), (fun v _ => v = .int .i64 (B16 : Int)), (fun v _ => v = .string D2), (fun v _ => v = .string S2), (fun v _ => v = .agg #[.string PN, .int .i64 R, .int .i64 C]), (fun v _ => v = .string S5), (fun v _ => v = .string NM), (fun v _ => v = .string S6), (Lits 7 [.string S0, .string S1, .string S2, .string ⟨#[116, 117, 98, 101, 46, 65]⟩, .string ⟨#[116, 117, 98, 101]⟩, .string S5, .string S6]), (fun v _ => v = .int .i64 7), (fun v _ => v = .int .i64 0)] 20 (f 20) w' := hf (20, 66) (by simp) (by rfl)
    have h22 : slotOf [(fun v _ => v = .string S0), (fun v _ => v = .string NM), (fun v _ => v = .string N1), (fun v _ => v = .int .u16 n), (fun v _ => v = .int .u16 (N20 : Int)), (fun v _ => v = .int .i64 (N20 : Int)), (fun v _ => v = .string D1), (fun v _ => v = .string S1), (fun v _ => v = .int .u8 a), (fun v _ => v = .int .u8 (A12 : Int)), (fun v _ => v = .int .u8 (65 + (A12 : Int))), (Lits 1 [.int .u8 (65 + (A12 : Int))]), (fun v _ => v = .string C1), (fun v _ => v = .string T1), (fun v _ => v = .int .u8 b), (fun v _ => v = .int .u8 (B16 : Int)), (fun v _ => v = .int .i64 (B16 : Int)), (fun v _ => v = .string D2), (fun v _ => v = .string S2), (fun v _ => v = .agg #[.string PN, .int .i64 R, .int .i64 C]), (fun v _ => v = .string S5), (fun v _ => v = .string NM), (fun v _ => v = .string S6), (Lits 7 [.string S0, .string S1, .string S2, .string ⟨#[116, 117, 98, 101, 46, 65]⟩, .string ⟨#[116, 117, 98, 101]⟩, .string S5, .string S6]), (fun v _ => v = .int .i64 7), (fun v _ => v = .int .i64 0)] 22 (f 22) w' := hf (22, 68) (by simp) (by rfl)
    clear hf
    have e0 : f 0 = .string S0 := h0
    have e7 : f 7 = .string S1 := h7
    have e18 : f 18 = .string S2 := h18
    have e20 : f 20 = .string S5 := h20
    have e22 : f 22 = .string S6 := h22
    refine slot_op rfl (fun _ => rfl) (fun T hT K hK => ?_)
    simp only [putsL, List.set_cons_zero, List.set_cons_succ, e0, e7, e18, e20, e22] at hT
    subst hT
    go_simp
    refine hK.out _ _ ⟨_, rfl, fun j u hj => ?_⟩ ((B.refl _).alloc _ _)
    rw [World.cell?_alloc_new]
    simpa using hj
  · intro f w' hf hB
    have h23 : slotOf [(fun v _ => v = .string S0), (fun v _ => v = .string NM), (fun v _ => v = .string N1), (fun v _ => v = .int .u16 n), (fun v _ => v = .int .u16 (N20 : Int)), (fun v _ => v = .int .i64 (N20 : Int)), (fun v _ => v = .string D1), (fun v _ => v = .string S1), (fun v _ => v = .int .u8 a), (fun v _ => v = .int .u8 (A12 : Int)), (fun v _ => v = .int .u8 (65 + (A12 : Int))), (Lits 1 [.int .u8 (65 + (A12 : Int))]), (fun v _ => v = .string C1), (fun v _ => v = .string T1), (fun v _ => v = .int .u8 b), (fun v _ => v = .int .u8 (B16 : Int)), (fun v _ => v = .int .i64 (B16 : Int)), (fun v _ => v = .string D2), (fun v _ => v = .string S2), (fun v _ => v = .agg #[.string PN, .int .i64 R, .int .i64 C]), (fun v _ => v = .string S5), (fun v _ => v = .string NM), (fun v _ => v = .string S6), (Lits 7 [.string S0, .string S1, .string S2, .string ⟨#[116, 117, 98, 101, 46, 65]⟩, .string ⟨#[116, 117, 98, 101]⟩, .string S5, .string S6]), (fun v _ => v = .int .i64 7), (fun v _ => v = .int .i64 0)] 23 (f 23) w' := hf (23, 69) (by simp) (by rfl)
    clear hf
    obtain ⟨bb, e23, hc⟩ := h23
    refine slot_op rfl (fun _ => rfl) (fun T hT K hK => ?_)
    simp only [putsL, List.set_cons_zero, List.set_cons_succ, e23] at hT
    subst hT
    go_simp
    exact hK.out _ _ rfl (B.refl _)
  · intro f w' hf hB
    clear hf
    refine slot_op rfl (fun _ => rfl) (fun T hT K hK => ?_)
    simp only [putsL, List.set_cons_zero, List.set_cons_succ] at hT
    subst hT
    go_simp
    exact hK.out _ _ rfl (B.refl _)
  · intro f w' hf hB T hT
    have h69 : Lits 7 [.string S0, .string S1, .string S2, .string ⟨#[116, 117, 98, 101, 46, 65]⟩, .string ⟨#[116, 117, 98, 101]⟩, .string S5, .string S6] (f 23) w' := hf (23, 69) (by simp)
    have h70 : f 24 = .int .i64 7 := hf (24, 70) (by simp)
    have h71 : f 25 = .int .i64 0 := hf (25, 71) (by simp)
    clear hf
    obtain ⟨bL, e69, hL⟩ := h69
    have e70 : f 24 = .int .i64 7 := h70
    have e71 : f 25 = .int .i64 0 := h71
    simp only [putsL, List.set_cons_zero, List.set_cons_succ, e69, e70, e71] at hT
    subst hT
    refine wpSeq_done ?_
    refine NoPanic.normal ?_
    generalize f 0 = g0
    generalize f 1 = g1
    generalize f 2 = g2
    generalize f 3 = g3
    generalize f 4 = g4
    generalize f 5 = g5
    generalize f 6 = g6
    generalize f 7 = g7
    generalize f 8 = g8
    generalize f 9 = g9
    generalize f 10 = g10
    generalize f 11 = g11
    generalize f 12 = g12
    generalize f 13 = g13
    generalize f 14 = g14
    generalize f 15 = g15
    generalize f 16 = g16
    generalize f 17 = g17
    generalize f 18 = g18
    generalize f 19 = g19
    generalize f 20 = g20
    generalize f 21 = g21
    generalize f 22 = g22
    clear e69 e70 e71
    have pp0 := hB.keep p0
    have pp1 := hB.keep p1
    have pp2 := hB.keep p2
    have pp3 := hB.keep p3
    have pp4 := hB.keep p4
    have pp5 := hB.keep p5
    have qW := qB.trans hB
    clear hB qB p0 p1 p2 p3 p4 p5
    go_wp2_with fail
    go_loopw [71] (fun iv wr => ∃ i : Nat, i ≤ 7 ∧ iv = .int .i64 i ∧ B w' wr) (fun iv _ => 8 - (intOf iv).toNat)
    case atStart => exact ⟨0, by omega, rfl, B.refl _⟩
    case round =>
      obtain ⟨i, hi, rfl, hBi⟩ := hrel
      obtain ⟨wo, rfl⟩ : ∃ wo : World, wo = wr := ⟨_, rfl⟩
      have y0 := hBi.keep pp3
      have y1 := hBi.keep pp4
      have y2 := hBi.keep pp5
      have y3 := hBi.keep pp0
      have y4 := hBi.keep pp1
      have y5 := hBi.keep pp2
      have hBo := qW.trans hBi
      by_cases hl : i < 7
      · have hlB : decide ((i : Int) < 7) = true := decide_eq_true (by omega)
        have hlB' : decide (i < 7) = true := decide_eq_true hl
        have hlI : (i : Int) < 7 := by omega
        have hi0 : (0 : Int) ≤ (i : Int) := by omega
        have wk1 : IntKind.i64.wrap ((i : Int) + 1) = (i : Int) + 1 := by rw [IntKind.wrap_i64]; omega
        obtain ⟨X, hX, hXl⟩ := HS.out i hl
        have hcX := hBi.keep (hL i _ hX)
        have HL := Lib.hid (And.intro hl hBi)
        have cA := fun w => wparse_any X w hXl
        have cB := fun w => r8well_any X w hXl
        clear hX hl hi hBi hBo y0 y1 y2 y3 y4 y5
        cases hw : wellL X with
        | none =>
          have cA' : ∀ w, Calls Tryd.prog 10 #[.string (strB X)] w fun e w' => e = .returned (.tuple #[.agg #[.string ⟨#[]⟩, .int .i64 0, .int .i64 0], .bool false]) ∧ B w w' := fun w => (cA w).mono fun e w' h => wellRes_not hw h
          have cB' : ∀ w, Calls Tryd.prog 11 #[.string (strB X)] w fun e w' => e = .returned (.tuple #[.agg #[.string ⟨#[]⟩, .int .i64 0, .int .i64 0], .bool false]) ∧ B w w' := fun w => (cB w).mono fun e w' h => wellRes_not hw h
          clear cA cB hw
          go_wp2_with fail
          refine (cA' _).mono ?_
          rintro _ w2 ⟨rfl, q2⟩
          go_wp2_with fail
          refine (cB' _).mono ?_
          rintro _ w3 ⟨rfl, q3⟩
          have oA := ((B.refl w3).alloc #[.string ⟨#[]⟩, .int .i64 0, .int .i64 0] 23).obj (q3.obj (obj_new w2 (.cells #[.string ⟨#[]⟩, .int .i64 0, .int .i64 0] 23)))
          have hlt := obj_lt (q3.obj (obj_new w2 (.cells #[.string ⟨#[]⟩, .int .i64 0, .int .i64 0] 23)))
          have HQ := Lib.hid ((((HL.out.2.trans q2).alloc #[.string ⟨#[]⟩, .int .i64 0, .int .i64 0] 23).trans q3).alloc #[.string ⟨#[]⟩, .int .i64 0, .int .i64 0] 23)
          have hne : ¬ w2.heap.size = w3.heap.size := by omega
          have hne2 : ¬ w3.heap.size = w2.heap.size := by omega
          have p0 : (w3.alloc (.cells #[.string ⟨#[]⟩, .int .i64 0, .int .i64 0] 23)).cell? ⟨w2.heap.size, 0, none⟩ = some (.string ⟨#[]⟩) := obj_cell oA 0
          have p1 : (w3.alloc (.cells #[.string ⟨#[]⟩, .int .i64 0, .int .i64 0] 23)).cell? ⟨w2.heap.size, 1, none⟩ = some (.int .i64 0) := obj_cell oA 1
          have p2 : (w3.alloc (.cells #[.string ⟨#[]⟩, .int .i64 0, .int .i64 0] 23)).cell? ⟨w2.heap.size, 2, none⟩ = some (.int .i64 0) := obj_cell oA 2
          clear oA hlt q2 q3
          go_wp2
          go_roundw
          case rel => exact ⟨i + 1, by have := HL.out.1; omega, by go_num, HQ.out⟩
          case measure => have := HL.out.1; simp [intOf]; omega
        | some nrc =>
          obtain ⟨n9, r9, c9⟩ := nrc
          have hback := well_back hw
          have hran := well_range hw
          have cA' : ∀ w, Calls Tryd.prog 10 #[.string (strB X)] w fun e w' => e = .returned (.tuple #[.agg #[.string (strB n9), .int .i64 ((r9 : Nat) : Int), .int .i64 ((c9 : Nat) : Int)], .bool true]) ∧ B w w' := fun w => (cA w).mono fun e w' h => wellRes_is hw h
          have cB' : ∀ w, Calls Tryd.prog 11 #[.string (strB X)] w fun e w' => e = .returned (.tuple #[.agg #[.string (strB n9), .int .i64 ((r9 : Nat) : Int), .int .i64 ((c9 : Nat) : Int)], .bool true]) ∧ B w w' := fun w => (cB w).mono fun e w' h => wellRes_is hw h
          have cT : ∀ w, Calls Tryd.prog 12 #[.agg #[.string (strB n9), .int .i64 ((r9 : Nat) : Int), .int .i64 ((c9 : Nat) : Int)]] w fun e w' => e = .returned (.string (strB X)) ∧ B w w' := fun w => by
            have := wtext_any (strB n9) (r9 : Int) (c9 : Int) (by unfold I64; omega) (by unfold I64; omega) w
            rw [hback] at this
            exact this
          clear cA cB hw hback hran
          generalize strB n9 = N9 at *
          generalize ((r9 : Nat) : Int) = R9 at *
          generalize ((c9 : Nat) : Int) = C9 at *
          generalize strB X = SX at *
          go_wp2_with fail
          refine (cA' _).mono ?_
          rintro _ w2 ⟨rfl, q2⟩
          go_wp2_with fail
          refine (cB' _).mono ?_
          rintro _ w3 ⟨rfl, q3⟩
          have oA := ((B.refl w3).alloc #[.string N9, .int .i64 R9, .int .i64 C9] 23).obj (q3.obj (obj_new w2 (.cells #[.string N9, .int .i64 R9, .int .i64 C9] 23)))
          have hlt := obj_lt (q3.obj (obj_new w2 (.cells #[.string N9, .int .i64 R9, .int .i64 C9] 23)))
          have HQ := Lib.hid ((((HL.out.2.trans q2).alloc #[.string N9, .int .i64 R9, .int .i64 C9] 23).trans q3).alloc #[.string N9, .int .i64 R9, .int .i64 C9] 23)
          have hne : ¬ w2.heap.size = w3.heap.size := by omega
          have hne2 : ¬ w3.heap.size = w2.heap.size := by omega
          have p0 : (w3.alloc (.cells #[.string N9, .int .i64 R9, .int .i64 C9] 23)).cell? ⟨w2.heap.size, 0, none⟩ = some (.string N9) := obj_cell oA 0
          have p1 : (w3.alloc (.cells #[.string N9, .int .i64 R9, .int .i64 C9] 23)).cell? ⟨w2.heap.size, 1, none⟩ = some (.int .i64 R9) := obj_cell oA 1
          have p2 : (w3.alloc (.cells #[.string N9, .int .i64 R9, .int .i64 C9] 23)).cell? ⟨w2.heap.size, 2, none⟩ = some (.int .i64 C9) := obj_cell oA 2
          clear oA hlt q2 q3
          go_wp2_with fail
          refine (cT _).mono ?_
          rintro _ w4 ⟨rfl, q4⟩
          go_wp2
          go_roundw
          case rel => exact ⟨i + 1, by have := HL.out.1; omega, by go_num, HQ.out.trans q4⟩
          case measure => have := HL.out.1; simp [intOf]; omega
      · have hlB : decide ((i : Int) < 7) = false := decide_eq_false (by omega)
        have hlB' : decide (i < 7) = false := decide_eq_false hl
        clear hL pp0 pp1 pp2 pp3 pp4 pp5 qW hBi HS
        go_wp2_with fail
        refine wp_region_noPanic ?_
        refine wp_region_seq (S := fun w' => w'.cell? ⟨E, 0, none⟩ = some (.string WN) ∧ w'.cell? ⟨E, 1, none⟩ = some (.int .i64 r) ∧ w'.cell? ⟨E, 2, none⟩ = some (.int .i64 c) ∧ w'.cell? ⟨H, 0, none⟩ = some (.string PN) ∧ w'.cell? ⟨H, 1, none⟩ = some (.int .i64 R) ∧ w'.cell? ⟨H, 2, none⟩ = some (.int .i64 C) ∧ B w w') [(0, 0), (2, 0), (1, 2), (3, 2), (4, 0), (5, 0), (6, 0), (8, 0), (7, 2), (9, 2), (10, 0), (11, 0), (12, 0)] [0, 1, 0, 6, 10, 24, 32, 96, 32, 416, 672, 1056, 4095] [0, 1, 0, 4, 10, 16, 32, 96, 32, 288, 672, 1056, 2048] (by kernel_rfl) (by kernel_rfl) (fun _ _ _ _ _ h => h) ?_ (fun hH => ?_)
        · exact ⟨y0, y1, y2, y3, y4, y5, hBo.drew⟩
        refine wpSeq_take (d := 103) (v := ?_) rfl rfl (by kernel_rfl) (fun w hS => ?_) ?_
        rotate_left
        · go_simp <;> with_reducible rfl
        dsimp only [List.set_cons_zero, List.set_cons_succ]
        refine wpSeq_take (d := 105) (v := ?_) rfl rfl (by kernel_rfl) (fun w hS => ?_) ?_
        rotate_left
        · go_simp <;> with_reducible rfl
        dsimp only [List.set_cons_zero, List.set_cons_succ]
        refine wpSeq_call rfl (by kernel_rfl) (fun K hK => ?_)
        go_simp
        (with_reducible refine (ctw _).mono ?_)
        rintro e w' ⟨rfl, hq⟩
        refine hK.out _ _ ?_ (fun hH => ?_)
        · exact ⟨hq.keep (hH.1), hq.keep (hH.2.1), hq.keep (hH.2.2.1), hq.keep (hH.2.2.2.1), hq.keep (hH.2.2.2.2.1), hq.keep (hH.2.2.2.2.2.1), (hH.2.2.2.2.2.2).trans hq⟩
        clear hK
        refine wpSeq_call rfl (by kernel_rfl) (fun K hK => ?_)
        go_simp
        (with_reducible refine (c9w _).mono ?_)
        rintro e w' ⟨rfl, hq⟩
        refine hK.out _ _ ?_ (fun hH => ?_)
        · exact ⟨hq.keep (hH.1), hq.keep (hH.2.1), hq.keep (hH.2.2.1), hq.keep (hH.2.2.2.1), hq.keep (hH.2.2.2.2.1), hq.keep (hH.2.2.2.2.2.1), (hH.2.2.2.2.2.2).trans hq⟩
        clear hK
        refine wpSeq_take (d := 107) (v := ?_) rfl rfl (by kernel_rfl) (fun w hS => ?_) ?_
        rotate_left
        · go_simp <;> with_reducible rfl
        dsimp only [List.set_cons_zero, List.set_cons_succ]
        refine wpSeq_take (d := 108) (v := ?_) rfl rfl (by kernel_rfl) (fun w hS => ?_) ?_
        rotate_left
        · go_simp <;> with_reducible rfl
        dsimp only [List.set_cons_zero, List.set_cons_succ]
        refine wpSeq_take (d := 109) (v := ?_) rfl rfl (by kernel_rfl) (fun w hS => ?_) ?_
        rotate_left
        · go_simp <;> with_reducible rfl
        dsimp only [List.set_cons_zero, List.set_cons_succ]
        refine wpSeq_take (d := 111) (v := ?_) rfl rfl (by kernel_rfl) (fun w hS => ?_) ?_
        rotate_left
        · go_simp <;> with_reducible rfl
        dsimp only [List.set_cons_zero, List.set_cons_succ]
        refine wpSeq_call rfl (by kernel_rfl) (fun K hK => ?_)
        go_simp
        (with_reducible refine (ctx _).mono ?_)
        rintro e w' ⟨rfl, hq⟩
        refine hK.out _ _ ?_ (fun hH => ?_)
        · exact ⟨hq.keep (hH.1), hq.keep (hH.2.1), hq.keep (hH.2.2.1), hq.keep (hH.2.2.2.1), hq.keep (hH.2.2.2.2.1), hq.keep (hH.2.2.2.2.2.1), (hH.2.2.2.2.2.2).trans hq⟩
        clear hK
        refine wpSeq_call rfl (by kernel_rfl) (fun K hK => ?_)
        go_simp
        (with_reducible refine (c5b _).mono ?_)
        rintro e w' ⟨rfl, hq⟩
        refine hK.out _ _ ?_ (fun hH => ?_)
        · exact ⟨hq.keep (hH.1), hq.keep (hH.2.1), hq.keep (hH.2.2.1), hq.keep (hH.2.2.2.1), hq.keep (hH.2.2.2.2.1), hq.keep (hH.2.2.2.2.2.1), (hH.2.2.2.2.2.2).trans hq⟩
        clear hK
        refine wpSeq_take (d := 113) (v := ?_) rfl rfl (by kernel_rfl) (fun w hS => ?_) ?_
        rotate_left
        · go_simp <;> with_reducible rfl
        dsimp only [List.set_cons_zero, List.set_cons_succ]
        refine wpSeq_take (d := 114) (v := ?_) rfl rfl (by kernel_rfl) (fun w hS => ?_) ?_
        rotate_left
        · go_simp <;> with_reducible rfl
        dsimp only [List.set_cons_zero, List.set_cons_succ]
        refine wpSeq_take (d := 12) (v := ?_) rfl rfl (by kernel_rfl) (fun w hS => ?_) ?_
        rotate_left
        · go_simp <;> with_reducible rfl
        dsimp only [List.set_cons_zero, List.set_cons_succ]
        refine wpSeq_done ?_
        refine NoPanic.normal ?_
        go_wp2
        go_ret
        exact ⟨rfl, hH.2.2.2.2.2.2⟩
end Go.Proofs.YtjcpabppklkjpaaDoor
