/-
  Which words are numbers, which are names.
-/
import Derived.Test.YtknpabijhmcjhaaL8nums
import Derived.Test.YtknpabijhmcjhaaL8tells
import Derived.Test.YtknpabijhmcjhaaFree
import Derived.Lib.MinMax
namespace Go.Proofs.Ytknpabijhmcjhaa
open Go.RowKit

def pickS : ByteArray := ⟨#[97, 98, 48, 57, 90, 46, 49, 122]⟩
theorem slice_pick {r : Nat} (h : r < 8) (w : World) : ∃ T : ByteArray, T.size = 1 ∧ (Instr.slice 9 (.string ⟨#[97, 98, 48, 57, 90, 46, 49, 122]⟩) (some (.int .u8 (r : Int))) (some (.int .u8 ((r : Int) + 1))) none).run Try.prog w = .ok (.string T) w := by
  have hs : (⟨#[97, 98, 48, 57, 90, 46, 49, 122]⟩ : ByteArray).size = 8 := rfl
  refine ⟨(⟨#[97, 98, 48, 57, 90, 46, 49, 122]⟩ : ByteArray).extract r (r + 1), ?_, ?_⟩
  · rw [ByteArray.size_extract, hs]; omega
  · rw [run_slice_string w 9 _ .u8 .u8 (r : Int) ((r : Int) + 1) Try.underlying9 (by omega) (by omega) (by rw [hs]; omega), show ((r : Int) + 1).toNat = r + 1 by omega, Int.toNat_natCast]
theorem slice_head (S : ByteArray) {M : Nat} (h : M ≤ S.size) (w : World) : (Instr.slice 9 (.string S) none (some (.int .i64 (M : Int))) none).run Try.prog w = .ok (.string (S.extract 0 M)) w := by
  have := run_slice_string_h (P := Try.prog) w 9 S Try.underlying9 .i64 (M : Int) (by omega) (by omega)
  rwa [Int.toNat_natCast] at this
set_option maxHeartbeats 16000000 in
set_option maxRecDepth 100000 in
theorem words_main (s0 : ByteArray) (v1 : Value) (b1 : List UInt8) (k : Int) (hk : (Lit.int .u64 k).wf = true) (w : World) (h1 : IsU8s w v1 b1) : Calls Try.prog 4 #[.string s0, v1, .int .u64 k] w fun e w' => e = .returned (.bool true) ∧ B w w' := by
  obtain ⟨ao1, cap1, bk1, o1, rfl, i1⟩ := h1
  by_cases c0 : 60 < s0.size
  · have c0B : decide ((60 : Int) < (s0.size : Int)) = true := decide_eq_true (by omega)
    clear i1 c0 hk
    go_enter Try.func4, Try.ntmps4
    go_wp2_with fail
    refine (known8_any _).mono ?_
    rintro e w1 ⟨rfl, q1⟩
    go_wp2
    go_ret
    exact ⟨rfl, q1⟩
  have c0B : decide ((60 : Int) < (s0.size : Int)) = false := decide_eq_false (by omega)
  by_cases c1 : 30 < b1.length
  · have c1B : decide ((30 : Int) < (b1.length : Int)) = true := decide_eq_true (by omega)
    clear i1 c0 c1 hk
    go_enter Try.func4, Try.ntmps4
    go_wp2_with fail
    refine (known8_any _).mono ?_
    rintro e w1 ⟨rfl, q1⟩
    go_wp2
    go_ret
    exact ⟨rfl, q1⟩
  have c1B : decide ((30 : Int) < (b1.length : Int)) = false := decide_eq_false (by omega)
  obtain ⟨hk0, hk1⟩ := u64w hk
  obtain ⟨V1, t1, l1, y1, z1⟩ := pick64 k hk0 2000000000001 (by omega) (by omega)
  obtain ⟨V2, t2, l2, y2, z2⟩ := pick64 k hk0 50 (by omega) (by omega)
  obtain ⟨V3, t3, l3, y3, z3⟩ := pick64 k hk0 3 (by omega) (by omega)
  have r1 : k.tmod 2000000000001 = (V1 : Int) := t1
  have r2 : k.tmod 50 = (V2 : Int) := t2
  have r3 : k.tmod 3 = (V3 : Int) := t3
  obtain ⟨V4, hV4⟩ : ∃ V4, V4 = 1000000000000 + V3 := ⟨_, rfl⟩
  have r4 : IntKind.i64.wrap (1000000000000 + (V3 : Int)) = (V4 : Int) := by rw [IntKind.wrap_i64]; omega
  have cD1 := r8dec_any V1 V1 (Nat.le_refl _) (by omega)
  have cD2 := r8dec_any V2 V2 (Nat.le_refl _) (by omega)
  have cD4 := r8dec_any V4 V4 (Nat.le_refl _) (by omega)
  have hs2 := decS_size (n := V2) (by omega)
  have hsz2 : ¬ 9223372036854775807 < 1 + (decS V2).size := by omega
  obtain ⟨D1, hD1⟩ : ∃ D, decS V1 = D := ⟨_, rfl⟩
  obtain ⟨D2, hD2⟩ : ∃ D, decS V2 = D := ⟨_, rfl⟩
  obtain ⟨D4, hD4⟩ : ∃ D, decS V4 = D := ⟨_, rfl⟩
  rw [hD1] at cD1
  rw [hD2] at cD2 hsz2
  rw [hD4] at cD4
  clear hk hk0 hk1 t1 t2 t3 l1 l2 l3 hV4 hs2 hD1 hD2 hD4
  go_enter Try.func4, Try.ntmps4
  go_wp2_with fail
  refine (known8_any _).mono ?_
  rintro e w1 ⟨rfl, q1⟩
  go_wp2
  go_loopw [7, 8] (fun sv iv wr => ∃ (i : Nat) (S : ByteArray), i ≤ b1.length ∧ iv = .int .i64 i ∧ sv = .string S ∧ S.size = i ∧ B w wr) (fun _ iv _ => b1.length + 1 - (intOf iv).toNat)
  case atStart => exact ⟨0, _, by omega, rfl, rfl, rfl, q1⟩
  case round =>
    obtain ⟨i, S, hi, rfl, rfl, hS, hB⟩ := hrel
    obtain ⟨wo, rfl⟩ : ∃ wo : World, wo = wr := ⟨_, rfl⟩
    by_cases hl : i < b1.length
    · obtain rfl := i1.ao (by omega)
      obtain ⟨x, hx⟩ : ∃ x, b1[i]? = some x := ⟨_, List.getElem?_eq_getElem hl⟩
      have hc := hB.keep (i1.at_ i x hx)
      have hlB : decide ((i : Int) < (b1.length : Int)) = true := decide_eq_true (by omega)
      have hlI : (i : Int) < (b1.length : Int) := by omega
      have hi0 : (0 : Int) ≤ (i : Int) := by omega
      have wk1 : IntKind.i64.wrap ((i : Int) + 1) = (i : Int) + 1 := by rw [IntKind.wrap_i64]; omega
      obtain ⟨r, hr⟩ : ∃ r : Nat, ((x.toNat : Nat) : Int).tmod 8 = (r : Int) := ⟨x.toNat % 8, by rw [Int.tmod_eq_emod_of_nonneg (by omega)]; omega⟩
      have hr8 : r < 8 := by rw [Int.tmod_eq_emod_of_nonneg (by omega)] at hr; omega
      have wr1 : IntKind.u8.wrap (r : Int) = (r : Int) := by simp [IntKind.wrap, IntKind.signed, IntKind.bits]; omega
      have wr2 : IntKind.u8.wrap ((r : Int) + 1) = (r : Int) + 1 := by simp [IntKind.wrap, IntKind.signed, IntKind.bits]; omega
      obtain ⟨m, hm⟩ : ∃ m, x.toNat = m := ⟨_, rfl⟩
      rw [hm] at hc hr
      obtain ⟨T, hT, hsl⟩ : ∃ T : ByteArray, T.size = 1 ∧ ∀ w, (Instr.slice 9 (.string ⟨#[97, 98, 48, 57, 90, 46, 49, 122]⟩) (some (.int .u8 (r : Int))) (some (.int .u8 ((r : Int) + 1))) none).run Try.prog w = .ok (.string T) w := by
        refine ⟨(⟨#[97, 98, 48, 57, 90, 46, 49, 122]⟩ : ByteArray).extract r (r + 1), by rw [ByteArray.size_extract, show (⟨#[97, 98, 48, 57, 90, 46, 49, 122]⟩ : ByteArray).size = 8 from rfl]; omega, fun w => ?_⟩
        rw [run_slice_string w 9 _ .u8 .u8 (r : Int) ((r : Int) + 1) Try.underlying9 (by omega) (by omega) (by rw [show (⟨#[97, 98, 48, 57, 90, 46, 49, 122]⟩ : ByteArray).size = 8 from rfl]; omega), show ((r : Int) + 1).toNat = r + 1 by omega, Int.toNat_natCast]
      have hsz : ¬ 9223372036854775807 < S.size + T.size := by omega
      have HS := Lib.hid (And.intro hB (And.intro hl (show (S ++ T).size = i + 1 by rw [ByteArray.size_append]; omega)))
      clear hB hl hx hm hS hT i1 c0 c1 c0B c1B q1 hi cD1 cD2 cD4 hr8
      go_wp2_with fail
      go_quiet (fail)
      go_wp2
      go_roundw
      case rel => exact ⟨i + 1, _, by have := HS.out.2.1; omega, by go_num, rfl, HS.out.2.2, HS.out.1.trans (show Dr _ _ from ⟨_, rfl⟩).q.b⟩
      case measure => have := HS.out.2.1; simp [intOf]; omega
    · have hlB : decide ((i : Int) < (b1.length : Int)) = false := decide_eq_false (by omega)
      obtain ⟨M, hM⟩ : ∃ M, M = min S.size 17 := ⟨_, rfl⟩
      have hmin : min (S.size : Int) 17 = (M : Int) := by omega
      have hsM := fun w => slice_head S (M := M) (by omega) w
      obtain ⟨X, hX⟩ : ∃ X, S.extract 0 M = X := ⟨_, rfl⟩
      rw [hX] at hsM
      have hszA : ¬ 9223372036854775807 < 1 + S.size := by omega
      obtain ⟨A, hA⟩ : ∃ A, (⟨#[97]⟩ : ByteArray) ++ S = A := ⟨_, rfl⟩
      obtain ⟨Z2, hZ2⟩ : ∃ Z, (⟨#[48]⟩ : ByteArray) ++ D2 = Z := ⟨_, rfl⟩
      have HW := Lib.hid hB
      clear hB hM hX i1 c0 c1 c0B c1B q1 hi hS
      go_wp2_with fail
      refine wp_region_noPanic ?_
      refine wp_region_slots [(0, 45), (1, 46), (2, 47), (3, 48), (4, 49), (5, 50), (6, 51), (7, 52), (8, 53), (9, 54), (10, 55), (11, 56), (12, 57), (13, 58), (14, 59), (15, 60), (16, 61), (17, 62), (18, 63), (19, 64), (20, 65), (21, 66), (22, 67), (23, 68), (24, 69), (25, 70)] [] [0, 0, 0, 4, 8, 16, 0, 64, 128, 288, 512, 0, 2048, 4096, 8192, 16896, 0, 0, 131072, 262144, 589824, 0, 2097152, 5276707, 8388608, 0] [0, 0, 0, 4, 8, 16, 0, 64, 128, 256, 512, 0, 2048, 4096, 8192, 16384, 0, 0, 131072, 262144, 589824, 0, 2097152, 5276707, 8388608, 0] [0, 0, 0, 4, 12, 28, 0, 64, 192, 508, 1020, 0, 2048, 6144, 14336, 31740, 0, 0, 131072, 393216, 983040, 0, 2097152, 8388607, 16777215, 0] 67108863 [(fun v _ => v = .string s0), (fun v _ => v = .string S), (fun v _ => v = .int .u64 k), (fun v _ => v = .int .u64 (V1 : Int)), (fun v _ => v = .int .i64 (V1 : Int)), (fun v _ => v = .string D1), (fun v _ => v = .int .u64 k), (fun v _ => v = .int .u64 (V2 : Int)), (fun v _ => v = .int .i64 (V2 : Int)), (fun v _ => v = .string D2), (fun v _ => v = .string Z2), (fun v _ => v = .int .u64 k), (fun v _ => v = .int .u64 (V3 : Int)), (fun v _ => v = .int .i64 (V3 : Int)), (fun v _ => v = .int .i64 (V4 : Int)), (fun v _ => v = .string D4), (fun v _ => v = .string S), (fun v _ => v = .string S), (fun v _ => v = .int .i64 (S.size : Int)), (fun v _ => v = .int .i64 (M : Int)), (fun v _ => v = .string X), (fun v _ => v = .string S), (fun v _ => v = .string A), (Lits 7 [.string s0, .string S, .string D1, .string Z2, .string D4, .string X, .string A]), (fun v _ => v = .int .i64 7), (fun v _ => v = .int .i64 0)] (by kernel_rfl) (by kernel_rfl) (fun _ _ _ _ h => h) ⟨slot_val _, slot_val _, slot_val _, slot_val _, slot_val _, slot_val _, slot_val _, slot_val _, slot_val _, slot_val _, slot_val _, slot_val _, slot_val _, slot_val _, slot_val _, slot_val _, slot_val _, slot_val _, slot_val _, slot_val _, slot_val _, slot_val _, slot_val _, slot_lits _ _, slot_val _, slot_val _, trivial⟩ ⟨?_, ?_, ?_, ?_, ?_, ?_, ?_, ?_, ?_, ?_, ?_, ?_, ?_, ?_, ?_, ?_, ?_, ?_, ?_, ?_, ?_, ?_, ?_, ?_, ?_, ?_, trivial⟩ ?_
      · intro f w' hf hB
        clear hf
        refine slot_op rfl (fun _ => rfl) (fun T hT K hK => ?_)
        simp only [putsL, List.set_cons_zero, List.set_cons_succ] at hT
        subst hT
        go_simp
        exact hK.out _ _ rfl (B.refl _)
      · intro f w' hf hB
        clear hf
        refine slot_op rfl (fun _ => rfl) (fun T hT K hK => ?_)
        simp only [putsL, List.set_cons_zero, List.set_cons_succ] at hT
        subst hT
        go_simp
        exact hK.out _ _ rfl (B.refl _)
      · intro f w' hf hB
        clear hf
        refine slot_op rfl (fun _ => rfl) (fun T hT K hK => ?_)
        simp only [putsL, List.set_cons_zero, List.set_cons_succ] at hT
        subst hT
        go_simp
        exact hK.out _ _ rfl (B.refl _)
      · intro f w' hf hB
        have h2 : slotOf [(fun v _ => v = .string s0), (fun v _ => v = .string S), (fun v _ => v = .int .u64 k), (fun v _ => v = .int .u64 (V1 : Int)), (fun v _ => v = .int .i64 (V1 : Int)), (fun v _ => v = .string D1), (fun v _ => v = .int .u64 k), (fun v _ => v = .int .u64 (V2 : Int)), (fun v _ => v = .int .i64 (V2 : Int)), (fun v _ => v = .string D2), (fun v _ => v = .string Z2), (fun v _ => v = .int .u64 k), (fun v _ => v = .int .u64 (V3 : Int)), (fun v _ => v = .int .i64 (V3 : Int)), (fun v _ => v = .int .i64 (V4 : Int)), (fun v _ => v = .string D4), (fun v _ => v = .string S), (fun v _ => v = .string S), (fun v _ => v = .int .i64 (S.size : Int)), (fun v _ => v = .int .i64 (M : Int)), (fun v _ => v = .string X), (fun v _ => v = .string S), (fun v _ => v = .string A), (Lits 7 [.string s0, .string S, .string D1, .string Z2, .string D4, .string X, .string A]), (fun v _ => v = .int .i64 7), (fun v _ => v = .int .i64 0)] 2 (f 2) w' := hf (2, 47) (by simp) (by rfl)
        clear hf
        have e2 : f 2 = .int .u64 k := h2
        refine slot_op rfl (fun _ => rfl) (fun T hT K hK => ?_)
        simp only [putsL, List.set_cons_zero, List.set_cons_succ, e2] at hT
        subst hT
        go_simp
        exact hK.out _ _ rfl (B.refl _)
      · intro f w' hf hB
        have h3 : slotOf [(fun v _ => v = .string s0), (fun v _ => v = .string S), (fun v _ => v = .int .u64 k), (fun v _ => v = .int .u64 (V1 : Int)), (fun v _ => v = .int .i64 (V1 : Int)), (fun v _ => v = .string D1), (fun v _ => v = .int .u64 k), (fun v _ => v = .int .u64 (V2 : Int)), (fun v _ => v = .int .i64 (V2 : Int)), (fun v _ => v = .string D2), (fun v _ => v = .string Z2), (fun v _ => v = .int .u64 k), (fun v _ => v = .int .u64 (V3 : Int)), (fun v _ => v = .int .i64 (V3 : Int)), (fun v _ => v = .int .i64 (V4 : Int)), (fun v _ => v = .string D4), (fun v _ => v = .string S), (fun v _ => v = .string S), (fun v _ => v = .int .i64 (S.size : Int)), (fun v _ => v = .int .i64 (M : Int)), (fun v _ => v = .string X), (fun v _ => v = .string S), (fun v _ => v = .string A), (Lits 7 [.string s0, .string S, .string D1, .string Z2, .string D4, .string X, .string A]), (fun v _ => v = .int .i64 7), (fun v _ => v = .int .i64 0)] 3 (f 3) w' := hf (3, 48) (by simp) (by rfl)
        clear hf
        have e3 : f 3 = .int .u64 (V1 : Int) := h3
        refine slot_op rfl (fun _ => rfl) (fun T hT K hK => ?_)
        simp only [putsL, List.set_cons_zero, List.set_cons_succ, e3] at hT
        subst hT
        go_simp
        exact hK.out _ _ rfl (B.refl _)
      · intro f w' hf hB
        have h4 : slotOf [(fun v _ => v = .string s0), (fun v _ => v = .string S), (fun v _ => v = .int .u64 k), (fun v _ => v = .int .u64 (V1 : Int)), (fun v _ => v = .int .i64 (V1 : Int)), (fun v _ => v = .string D1), (fun v _ => v = .int .u64 k), (fun v _ => v = .int .u64 (V2 : Int)), (fun v _ => v = .int .i64 (V2 : Int)), (fun v _ => v = .string D2), (fun v _ => v = .string Z2), (fun v _ => v = .int .u64 k), (fun v _ => v = .int .u64 (V3 : Int)), (fun v _ => v = .int .i64 (V3 : Int)), (fun v _ => v = .int .i64 (V4 : Int)), (fun v _ => v = .string D4), (fun v _ => v = .string S), (fun v _ => v = .string S), (fun v _ => v = .int .i64 (S.size : Int)), (fun v _ => v = .int .i64 (M : Int)), (fun v _ => v = .string X), (fun v _ => v = .string S), (fun v _ => v = .string A), (Lits 7 [.string s0, .string S, .string D1, .string Z2, .string D4, .string X, .string A]), (fun v _ => v = .int .i64 7), (fun v _ => v = .int .i64 0)] 4 (f 4) w' := hf (4, 49) (by simp) (by rfl)
        clear hf
        have e4 : f 4 = .int .i64 (V1 : Int) := h4
        refine slot_op rfl (fun _ => rfl) (fun T hT K hK => ?_)
        simp only [putsL, List.set_cons_zero, List.set_cons_succ, e4] at hT
        subst hT
        go_simp
        (with_reducible refine (cD1 _).mono ?_)
        rintro e w2 ⟨rfl, rfl⟩
        exact hK.out _ _ rfl (B.refl _)
      · intro f w' hf hB
        clear hf
        refine slot_op rfl (fun _ => rfl) (fun T hT K hK => ?_)
        simp only [putsL, List.set_cons_zero, List.set_cons_succ] at hT
        subst hT
        go_simp
        exact hK.out _ _ rfl (B.refl _)
      · intro f w' hf hB
        have h6 : slotOf [(fun v _ => v = .string s0), (fun v _ => v = .string S), (fun v _ => v = .int .u64 k), (fun v _ => v = .int .u64 (V1 : Int)), (fun v _ => v = .int .i64 (V1 : Int)), (fun v _ => v = .string D1), (fun v _ => v = .int .u64 k), (fun v _ => v = .int .u64 (V2 : Int)), (fun v _ => v = .int .i64 (V2 : Int)), (fun v _ => v = .string D2), (fun v _ => v = .string Z2), (fun v _ => v = .int .u64 k), (fun v _ => v = .int .u64 (V3 : Int)), (fun v _ => v = .int .i64 (V3 : Int)), (fun v _ => v = .int .i64 (V4 : Int)), (fun v _ => v = .string D4), (fun v _ => v = .string S), (fun v _ => v = .string S), (fun v _ => v = .int .i64 (S.size : Int)), (fun v _ => v = .int .i64 (M : Int)), (fun v _ => v = .string X), (fun v _ => v = .string S), (fun v _ => v = .string A), (Lits 7 [.string s0, .string S, .string D1, .string Z2, .string D4, .string X, .string A]), (fun v _ => v = .int .i64 7), (fun v _ => v = .int .i64 0)] 6 (f 6) w' := hf (6, 51) (by simp) (by rfl)
        clear hf
        have e6 : f 6 = .int .u64 k := h6
        refine slot_op rfl (fun _ => rfl) (fun T hT K hK => ?_)
        simp only [putsL, List.set_cons_zero, List.set_cons_succ, e6] at hT
        subst hT
        go_simp
        exact hK.out _ _ rfl (B.refl _)
      · intro f w' hf hB
        have h7 : slotOf [(fun v _ => v = .string s0), (fun v _ => v = .string S), (fun v _ => v = .int .u64 k), (fun v _ => v = .int .u64 (V1 : Int)), (fun v _ => v = .int .i64 (V1 : Int)), (fun v _ => v = .string D1), (fun v _ => v = .int .u64 k), (fun v _ => v = .int .u64 (V2 : Int)), (fun v _ => v = .int .i64 (V2 : Int)), (fun v _ => v = .string D2), (fun v _ => v = .string Z2), (fun v _ => v = .int .u64 k), (fun v _ => v = .int .u64 (V3 : Int)), (fun v _ => v = .int .i64 (V3 : Int)), (fun v _ => v = .int .i64 (V4 : Int)), (fun v _ => v = .string D4), (fun v _ => v = .string S), (fun v _ => v = .string S), (fun v _ => v = .int .i64 (S.size : Int)), (fun v _ => v = .int .i64 (M : Int)), (fun v _ => v = .string X), (fun v _ => v = .string S), (fun v _ => v = .string A), (Lits 7 [.string s0, .string S, .string D1, .string Z2, .string D4, .string X, .string A]), (fun v _ => v = .int .i64 7), (fun v _ => v = .int .i64 0)] 7 (f 7) w' := hf (7, 52) (by simp) (by rfl)
        clear hf
        have e7 : f 7 = .int .u64 (V2 : Int) := h7
        refine slot_op rfl (fun _ => rfl) (fun T hT K hK => ?_)
        simp only [putsL, List.set_cons_zero, List.set_cons_succ, e7] at hT
        subst hT
        go_simp
        exact hK.out _ _ rfl (B.refl _)
      · intro f w' hf hB
        have h8 : slotOf [(fun v _ => v = .string s0), (fun v _ => v = .string S), (fun v _ => v = .int .u64 k), (fun v _ => v = .int .u64 (V1 : Int)), (fun v _ => v = .int .i64 (V1 : Int)), (fun v _ => v = .string D1), (fun v _ => v = .int .u64 k), (fun v _ => v = .int .u64 (V2 : Int)), (fun v _ => v = .int .i64 (V2 : Int)), (fun v _ => v = .string D2), (fun v _ => v = .string Z2), (fun v _ => v = .int .u64 k), (fun v _ => v = .int .u64 (V3 : Int)), (fun v _ => v = .int .i64 (V3 : Int)), (fun v _ => v = .int .i64 (V4 : Int)), (fun v _ => v = .string D4), (fun v _ => v = .string S), (fun v _ => v = .string S), (fun v _ => v = .int .i64 (S.size : Int)), (fun v _ => v = .int .i64 (M : Int)), (fun v _ => v = .string X), (fun v _ => v = .string S), (fun v _ => v = .string A), (Lits 7 [.string s0, .string S, .string D1, .string Z2, .string D4, .string X, .string A]), (fun v _ => v = .int .i64 7), (fun v _ => v = .int .i64 0)] 8 (f 8) w' := hf (8, 53) (by simp) (by rfl)
        clear hf
        have e8 : f 8 = .int .i64 (V2 : Int) := h8
        refine slot_op rfl (fun _ => rfl) (fun T hT K hK => ?_)
        simp only [putsL, List.set_cons_zero, List.set_cons_succ, e8] at hT
        subst hT
        go_simp
        (with_reducible refine (cD2 _).mono ?_)
        rintro e w2 ⟨rfl, rfl⟩
        exact hK.out _ _ rfl (B.refl _)
      · intro f w' hf hB
        have h9 : slotOf [(fun v _ => v = .string s0), (fun v _ => v = .string S), (fun v _ => v = .int .u64 k), (fun v _ => v = .int .u64 (V1 : Int)), (fun v _ => v = .int .i64 (V1 : Int)), (fun v _ => v = .string D1), (fun v _ => v = .int .u64 k), (fun v _ => v = .int .u64 (V2 : Int)), (fun v _ => v = .int .i64 (V2 : Int)), (fun v _ => v = .string D2), (fun v _ => v = .string Z2), (fun v _ => v = .int .u64 k), (fun v _ => v = .int .u64 (V3 : Int)), (fun v _ => v = .int .i64 (V3 : Int)), (fun v _ => v = .int .i64 (V4 : Int)), (fun v _ => v = .string D4), (fun v _ => v = .string S), (fun v _ => v = .string S), (fun v _ => v = .int .i64 (S.size : Int)), (fun v _ => v = .int .i64 (M : Int)), (fun v _ => v = .string X), (fun v _ => v = .string S), (fun v _ => v = .string A), (Lits 7 [.string s0, .string S, .string D1, .string Z2, .string D4, .string X, .string A]), (fun v _ => v = .int .i64 7), (fun v _ => v = .int .i64 0)] 9 (f 9) w' := hf (9, 54) (by simp) (by rfl)
        clear hf
        have e9 : f 9 = .string D2 := h9
        refine slot_op rfl (fun _ => rfl) (fun T hT K hK => ?_)
        simp only [putsL, List.set_cons_zero, List.set_cons_succ, e9] at hT
        subst hT
        go_simp
        exact hK.out _ _ rfl (B.refl _)
      · intro f w' hf hB
        clear hf
        refine slot_op rfl (fun _ => rfl) (fun T hT K hK => ?_)
        simp only [putsL, List.set_cons_zero, List.set_cons_succ] at hT
        subst hT
        go_simp
        exact hK.out _ _ rfl (B.refl _)
      · intro f w' hf hB
        have h11 : slotOf [(fun v _ => v = .string s0), (fun v _ => v = .string S), (fun v _ => v = .int .u64 k), (fun v _ => v = .int .u64 (V1 : Int)), (fun v _ => v = .int .i64 (V1 : Int)), (fun v _ => v = .string D1), (fun v _ => v = .int .u64 k), (fun v _ => v = .int .u64 (V2 : Int)), (fun v _ => v = .int .i64 (V2 : Int)), (fun v _ => v = .string D2), (fun v _ => v = .string Z2), (fun v _ => v = .int .u64 k), (fun v _ => v = .int .u64 (V3 : Int)), (fun v _ => v = .int .i64 (V3 : Int)), (fun v _ => v = .int .i64 (V4 : Int)), (fun v _ => v = .string D4), (fun v _ => v = .string S), (fun v _ => v = .string S), (fun v _ => v = .int .i64 (S.size : Int)), (fun v _ => v = .int .i64 (M : Int)), (fun v _ => v = .string X), (fun v _ => v = .string S), (fun v _ => v = .string A), (Lits 7 [.string s0, .string S, .string D1, .string Z2, .string D4, .string X, .string A]), (fun v _ => v = .int .i64 7), (fun v _ => v = .int .i64 0)] 11 (f 11) w' := hf (11, 56) (by simp) (by rfl)
        clear hf
        have e11 : f 11 = .int .u64 k := h11
        refine slot_op rfl (fun _ => rfl) (fun T hT K hK => ?_)
        simp only [putsL, List.set_cons_zero, List.set_cons_succ, e11] at hT
        subst hT
        go_simp
        exact hK.out _ _ rfl (B.refl _)
      · intro f w' hf hB
        have h12 : slotOf [(fun v _ => v = .string s0), (fun v _ => v = .string S), (fun v _ => v = .int .u64 k), (fun v _ => v = .int .u64 (V1 : Int)), (fun v _ => v = .int .i64 (V1 : Int)), (fun v _ => v = .string D1), (fun v _ => v = .int .u64 k), (fun v _ => v = .int .u64 (V2 : Int)), (fun v _ => v = .int .i64 (V2 : Int)), (fun v _ => v = .string D2), (fun v _ => v = .string Z2), (fun v _ => v = .int .u64 k), (fun v _ => v = .int .u64 (V3 : Int)), (fun v _ => v = .int .i64 (V3 : Int)), (fun v _ => v = .int .i64 (V4 : Int)), (fun v _ => v = .string D4), (fun v _ => v = .string S), (fun v _ => v = .string S), (fun v _ => v = .int .i64 (S.size : Int)), (fun v _ => v = .int .i64 (M : Int)), (fun v _ => v = .string X), (fun v _ => v = .string S), (fun v _ => v = .string A), (Lits 7 [.string s0, .string S, .string D1, .string Z2, .string D4, .string X, .string A]), (fun v _ => v = .int .i64 7), (fun v _ => v = .int .i64 0)] 12 (f 12) w' := hf (12, 57) (by simp) (by rfl)
        clear hf
        have e12 : f 12 = .int .u64 (V3 : Int) := h12
        refine slot_op rfl (fun _ => rfl) (fun T hT K hK => ?_)
        simp only [putsL, List.set_cons_zero, List.set_cons_succ, e12] at hT
        subst hT
        go_simp
        exact hK.out _ _ rfl (B.refl _)
      · intro f w' hf hB
        have h13 : slotOf [(fun v _ => v = .string s0), (fun v _ => v = .string S), (fun v _ => v = .int .u64 k), (fun v _ => v = .int .u64 (V1 : Int)), (fun v _ => v = .int .i64 (V1 : Int)), (fun v _ => v = .string D1), (fun v _ => v = .int .u64 k), (fun v _ => v = .int .u64 (V2 : Int)), (fun v _ => v = .int .i64 (V2 : Int)), (fun v _ => v = .string D2), (fun v _ => v = .string Z2), (fun v _ => v = .int .u64 k), (fun v _ => v = .int .u64 (V3 : Int)), (fun v _ => v = .int .i64 (V3 : Int)), (fun v _ => v = .int .i64 (V4 : Int)), (fun v _ => v = .string D4), (fun v _ => v = .string S), (fun v _ => v = .string S), (fun v _ => v = .int .i64 (S.size : Int)), (fun v _ => v = .int .i64 (M : Int)), (fun v _ => v = .string X), (fun v _ => v = .string S), (fun v _ => v = .string A), (Lits 7 [.string s0, .string S, .string D1, .string Z2, .string D4, .string X, .string A]), (fun v _ => v = .int .i64 7), (fun v _ => v = .int .i64 0)] 13 (f 13) w' := hf (13, 58) (by simp) (by rfl)
        clear hf
        have e13 : f 13 = .int .i64 (V3 : Int) := h13
        refine slot_op rfl (fun _ => rfl) (fun T hT K hK => ?_)
        simp only [putsL, List.set_cons_zero, List.set_cons_succ, e13] at hT
        subst hT
        go_simp
        exact hK.out _ _ rfl (B.refl _)
      · intro f w' hf hB
        have h14 : slotOf [(fun v _ => v = .string s0), (fun v _ => v = .string S), (fun v _ => v = .int .u64 k), (fun v _ => v = .int .u64 (V1 : Int)), (fun v _ => v = .int .i64 (V1 : Int)), (fun v _ => v = .string D1), (fun v _ => v = .int .u64 k), (fun v _ => v = .int .u64 (V2 : Int)), (fun v _ => v = .int .i64 (V2 : Int)), (fun v _ => v = .string D2), (fun v _ => v = .string Z2), (fun v _ => v = .int .u64 k), (fun v _ => v = .int .u64 (V3 : Int)), (fun v _ => v = .int .i64 (V3 : Int)), (fun v _ => v = .int .i64 (V4 : Int)), (fun v _ => v = .string D4), (fun v _ => v = .string S), (fun v _ => v = .string S), (fun v _ => v = .int .i64 (S.size : Int)), (fun v _ => v = .int .i64 (M : Int)), (fun v _ => v = .string X), (fun v _ => v = .string S), (fun v _ => v = .string A), (Lits 7 [.string s0, .string S, .string D1, .string Z2, .string D4, .string X, .string A]), (fun v _ => v = .int .i64 7), (fun v _ => v = .int .i64 0)] 14 (f 14) w' := hf (14, 59) (by simp) (by rfl)
        clear hf
        have e14 : f 14 = .int .i64 (V4 : Int) := h14
        refine slot_op rfl (fun _ => rfl) (fun T hT K hK => ?_)
        simp only [putsL, List.set_cons_zero, List.set_cons_succ, e14] at hT
        subst hT
        go_simp
        (with_reducible refine (cD4 _).mono ?_)
        rintro e w2 ⟨rfl, rfl⟩
        exact hK.out _ _ rfl (B.refl _)
      · intro f w' hf hB
        clear hf
        refine slot_op rfl (fun _ => rfl) (fun T hT K hK => ?_)
        simp only [putsL, List.set_cons_zero, List.set_cons_succ] at hT
        subst hT
        go_simp
        exact hK.out _ _ rfl (B.refl _)
      · intro f w' hf hB
        clear hf
        refine slot_op rfl (fun _ => rfl) (fun T hT K hK => ?_)
        simp only [putsL, List.set_cons_zero, List.set_cons_succ] at hT
        subst hT
        go_simp
        exact hK.out _ _ rfl (B.refl _)
      · intro f w' hf hB
        have h17 : slotOf [(fun v _ => v = .string s0), (fun v _ => v = .string S), (fun v _ => v = .int .u64 k), (fun v _ => v = .int .u64 (V1 : Int)), (fun v _ => v = .int .i64 (V1 : Int)), (fun v _ => v = .string D1), (fun v _ => v = .int .u64 k), (fun v _ => v = .int .u64 (V2 : Int)), (fun v _ => v = .int .i64 (V2 : Int)), (fun v _ => v = .string D2), (fun v _ => v = .string Z2), (fun v _ => v = .int .u64 k), (fun v _ => v = .int .u64 (V3 : Int)), (fun v _ => v = .int .i64 (V3 : Int)), (fun v _ => v = .int .i64 (V4 : Int)), (fun v _ => v = .string D4), (fun v _ => v = .string S), (fun v _ => v = .string S), (fun v _ => v = .int .i64 (S.size : Int)), (fun v _ => v = .int .i64 (M : Int)), (fun v _ => v = .string X), (fun v _ => v = .string S), (fun v _ => v = .string A), (Lits 7 [.string s0, .string S, .string D1, .string Z2, .string D4, .string X, .string A]), (fun v _ => v = .int .i64 7), (fun v _ => v = .int .i64 0)] 17 (f 17) w' := hf (17, 62) (by simp) (by rfl)
        clear hf
        have e17 : f 17 = .string S := h17
        refine slot_op rfl (fun _ => rfl) (fun T hT K hK => ?_)
        simp only [putsL, List.set_cons_zero, List.set_cons_succ, e17] at hT
        subst hT
        go_simp
        exact hK.out _ _ rfl (B.refl _)
      · intro f w' hf hB
        have h18 : slotOf [(fun v _ => v = .string s0), (fun v _ => v = .string S), (fun v _ => v = .int .u64 k), (fun v _ => v = .int .u64 (V1 : Int)), (fun v _ => v = .int .i64 (V1 : Int)), (fun v _ => v = .string D1), (fun v _ => v = .int .u64 k), (fun v _ => v = .int .u64 (V2 : Int)), (fun v _ => v = .int .i64 (V2 : Int)), (fun v _ => v = .string D2), (fun v _ => v = .string Z2), (fun v _ => v = .int .u64 k), (fun v _ => v = .int .u64 (V3 : Int)), (fun v _ => v = .int .i64 (V3 : Int)), (fun v _ => v = .int .i64 (V4 : Int)), (fun v _ => v = .string D4), (fun v _ => v = .string S), (fun v _ => v = .string S), (fun v _ => v = .int .i64 (S.size : Int)), (fun v _ => v = .int .i64 (M : Int)), (fun v _ => v = .string X), (fun v _ => v = .string S), (fun v _ => v = .string A), (Lits 7 [.string s0, .string S, .string D1, .string Z2, .string D4, .string X, .string A]), (fun v _ => v = .int .i64 7), (fun v _ => v = .int .i64 0)] 18 (f 18) w' := hf (18, 63) (by simp) (by rfl)
        clear hf
        have e18 : f 18 = .int .i64 (S.size : Int) := h18
        refine slot_op rfl (fun _ => rfl) (fun T hT K hK => ?_)
        simp only [putsL, List.set_cons_zero, List.set_cons_succ, e18] at hT
        subst hT
        go_simp
        exact hK.out _ _ rfl (B.refl _)
      · intro f w' hf hB
        have h16 : slotOf [(fun v _ => v = .string s0), (fun v _ => v = .string S), (fun v _ => v = .int .u64 k), (fun v _ => v = .int .u64 (V1 : Int)), (fun v _ => v = .int .i64 (V1 : Int)), (fun v _ => v = .string D1), (fun v _ => v = .int .u64 k), (fun v _ => v = .int .u64 (V2 : Int)), (fun v _ => v = .int .i64 (V2 : Int)), (fun v _ => v = .string D2), (fun v _ => v = .string Z2), (fun v _ => v = .int .u64 k), (fun v _ => v = .int .u64 (V3 : Int)), (fun v _ => v = .int .i64 (V3 : Int)), (fun v _ => v = .int .i64 (V4 : Int)), (fun v _ => v = .string D4), (fun v _ => v = .string S), (fun v _ => v = .string S), (fun v _ => v = .int .i64 (S.size : Int)), (fun v _ => v = .int .i64 (M : Int)), (fun v _ => v = .string X), (fun v _ => v = .string S), (fun v _ => v = .string A), (Lits 7 [.string s0, .string S, .string D1, .string Z2, .string D4, .string X, .string A]), (fun v _ => v = .int .i64 7), (fun v _ => v = .int .i64 0)] 16 (f 16) w' := hf (16, 61) (by simp) (by rfl)
        have h19 : slotOf [(fun v _ => v = .string s0), (fun v _ => v = .string S), (fun v _ => v = .int .u64 k), (fun v _ => v = .int .u64 (V1 : Int)), (fun v _ => v = .int .i64 (V1 : Int)), (fun v _ => v = .string D1), (fun v _ => v = .int .u64 k), (fun v _ => v = .int .u64 (V2 : Int)), (fun v _ => v = .int .i64 (V2 : Int)), (fun v _ => v = .string D2), (fun v _ => v = .string Z2), (fun v _ => v = .int .u64 k), (fun v _ => v = .int .u64 (V3 : Int)), (fun v _ => v = .int .i64 (V3 : Int)), (fun v _ => v = .int .i64 (V4 : Int)), (fun v _ => v = .string D4), (fun v _ => v = .string S), (fun v _ => v = .string S), (fun v _ => v = .int .i64 (S.size : Int)), (fun v _ => v = .int .i64 (M : Int)), (fun v _ => v = .string X), (fun v _ => v = .string S), (fun v _ => v = .string A), (Lits 7 [.string s0, .string S, .string D1, .string Z2, .string D4, .string X, .string A]), (fun v _ => v = .int .i64 7), (fun v _ => v = .int .i64 0)] 19 (f 19) w' := hf (19, 64) (by simp) (by rfl)
        clear hf
        have e16 : f 16 = .string S := h16
        have e19 : f 19 = .int .i64 (M : Int) := h19
        refine slot_op rfl (fun _ => rfl) (fun T hT K hK => ?_)
        simp only [putsL, List.set_cons_zero, List.set_cons_succ, e16, e19] at hT
        subst hT
        go_simp
        exact hK.out _ _ rfl (B.refl _)
      · intro f w' hf hB
        clear hf
        refine slot_op rfl (fun _ => rfl) (fun T hT K hK => ?_)
        simp only [putsL, List.set_cons_zero, List.set_cons_succ] at hT
        subst hT
        go_simp
        exact hK.out _ _ rfl (B.refl _)
      · intro f w' hf hB
        have h21 : slotOf [(fun v _ => v = .string s0), (fun v _ => v = .string S), (fun v _ => v = .int .u64 k), (fun v _ => v = .int .u64 (V1 : Int)), (fun v _ => v = .int .i64 (V1 : Int)), (fun v _ => v = .string D1), (fun v _ => v = .int .u64 k), (fun v _ => v = .int .u64 (V2 : Int)), (fun v _ => v = .int .i64 (V2 : Int)), (fun v _ => v = .string D2), (fun v _ => v = .string Z2), (fun v _ => v = .int .u64 k), (fun v _ => v = .int .u64 (V3 : Int)), (fun v _ => v = .int .i64 (V3 : Int)), (fun v _ => v = .int .i64 (V4 : Int)), (fun v _ => v = .string D4), (fun v _ => v = .string S), (fun v _ => v = .string S), (fun v _ => v = .int .i64 (S.size : Int)), (fun v _ => v = .int .i64 (M : Int)), (fun v _ => v = .string X), (fun v _ => v = .string S), (fun v _ => v = .string A), (Lits 7 [.string s0, .string S, .string D1, .string Z2, .string D4, .string X, .string A]), (fun v _ => v = .int .i64 7), (fun v _ => v = .int .i64 0)] 21 (f 21) w' := hf (21, 66) (by simp) (by rfl)
        clear hf
        have e21 : f 21 = .string S := h21
        refine slot_op rfl (fun _ => rfl) (fun T hT K hK => ?_)
        simp only [putsL, List.set_cons_zero, List.set_cons_succ, e21] at hT
        subst hT
        go_simp
        exact hK.out _ _ rfl (B.refl _)
      · intro f w' hf hB
        have h0 : slotOf [(fun v _ => v = .string s0), (fun v _ => v = .string S), (fun v _ => v = .int .u64 k), (fun v _ => v = .int .u64 (V1 : Int)), (fun v _ => v = .int .i64 (V1 : Int)), (fun v _ => v = .string D1), (fun v _ => v = .int .u64 k), (fun v _ => v = .int .u64 (V2 : Int)), (fun v _ => v = .int .i64 (V2 : Int)), (fun v _ => v = .string D2), (fun v _ => v = .string Z2), (fun v _ => v = .int .u64 k), (fun v _ => v = .int .u64 (V3 : Int)), (fun v _ => v = .int .i64 (V3 : Int)), (fun v _ => v = .int .i64 (V4 : Int)), (fun v _ => v = .string D4), (fun v _ => v = .string S), (fun v _ => v = .string S), (fun v _ => v = .int .i64 (S.size : Int)), (fun v _ => v = .int .i64 (M : Int)), (fun v _ => v = .string X), (fun v _ => v = .string S), (fun v _ => v = .string A), (Lits 7 [.string s0, .string S, .string D1, .string Z2, .string D4, .string X, .string A]), (fun v _ => v = .int .i64 7), (fun v _ => v = .int .i64 0)] 0 (f 0) w' := hf (0, 45) (by simp) (by rfl)
        have h1 : slotOf [(fun v _ => v = .string s0), (fun v _ => v = .string S), (fun v _ => v = .int .u64 k), (fun v _ => v = .int .u64 (V1 : Int)), (fun v _ => v = .int .i64 (V1 : Int)), (fun v _ => v = .string D1), (fun v _ => v = .int .u64 k), (fun v _ => v = .int .u64 (V2 : Int)), (fun v _ => v = .int .i64 (V2 : Int)), (fun v _ => v = .string D2), (fun v _ => v = .string Z2), (fun v _ => v = .int .u64 k), (fun v _ => v = .int .u64 (V3 : Int)), (fun v _ => v = .int .i64 (V3 : Int)), (fun v _ => v = .int .i64 (V4 : Int)), (fun v _ => v = .string D4), (fun v _ => v = .string S), (fun v _ => v = .string S), (fun v _ => v = .int .i64 (S.size : Int)), (fun v _ => v = .int .i64 (M : Int)), (fun v _ => v = .string X), (fun v _ => v = .string S), (fun v _ => v = .string A), (Lits 7 [.string s0, .string S, .string D1, .string Z2, .string D4, .string X, .string A]), (fun v _ => v = .int .i64 7), (fun v _ => v = .int .i64 0)] 1 (f 1) w' := hf (1, 46) (by simp) (by rfl)
        have h5 : slotOf [(fun v _ => v = .string s0), (fun v _ => v = .string S), (fun v _ => v = .int .u64 k), (fun v _ => v = .int .u64 (V1 : Int)), (fun v _ => v = .int .i64 (V1 : Int)), (fun v _ => v = .string D1), (fun v _ => v = .int .u64 k), (fun v _ => v = .int .u64 (V2 : Int)), (fun v _ => v = .int .i64 (V2 : Int)), (fun v _ => v = .string D2), (fun v _ => v = .string Z2), (fun v _ => v = .int .u64 k), (fun v _ => v = .int .u64 (V3 : Int)), (fun v _ => v = .int .i64 (V3 : Int)), (fun v _ => v = .int .i64 (V4 : Int)), (fun v _ => v = .string D4), (fun v _ => v = .string S), (fun v _ => v = .string S), (fun v _ => v = .int .i64 (S.size : Int)), (fun v _ => v = .int .i64 (M : Int)), (fun v _ => v = .string X), (fun v _ => v = .string S), (fun v _ => v = .string A), (Lits 7 [.string s0, .string S, .string D1, .string Z2, .string D4, .string X, .string A]), (fun v _ => v = .int .i64 7), (fun v _ => v = .int .i64 0)] 5 (f 5) w' := hf (5, 50) (by simp) (by rfl)
        have h10 : slotOf [(fun v _ => v = .string s0), (fun v _ => v = .string S), (fun v _ => v = .int .u64 k), (fun v _ => v = .int .u64 (V1 : Int)), (fun v _ => v = .int .i64 (V1 : Int)), (fun v _ => v = .string D1), (fun v _ => v = .int .u64 k), (fun v _ => v = .int .u64 (V2 : Int)), (fun v _ => v = .int .i64 (V2 : Int)), (fun v _ => v = .string D2), (fun v _ => v = .string Z2), (fun v _ => v = .int .u64 k), (fun v _ => v = .int .u64 (V3 : Int)), (fun v _ => v = .int .i64 (V3 : Int)), (fun v _ => v = .int .i64 (V4 : Int)), (fun v _ => v = .string D4), (fun v _ => v = .string S), (fun v _ => v = .string S), (fun v _ => v = .int .i64 (S.size : Int)), (fun v _ => v = .int .i64 (M : Int)), (fun v _ => v = .string X), (fun v _ => v = .string S), (fun v _ => v = .string A), (Lits 7 [.string s0, .string S, .string D1, .string Z2, .string D4, .string X, .string A]), (fun v _ => v = .int .i64 7), (fun v _ => v = .int .i64 0)] 10 (f 10) w' := hf (10, 55) (by simp) (by rfl)
        have h15 : slotOf [(fun v _ => v = .string s0), (fun v _ => v = .string S), (fun v _ => v = .int .u64 k), (fun v _ => v = .int .u64 (V1 : Int)), (fun v _ => v = .int .i64 (V1 : Int)), (fun v _ => v = .string D1), (fun v _ => v = .int .u64 k), (fun v _ => v = .int .u64 (V2 : Int)), (fun v _ => v = .int .i64 (V2 : Int)), (fun v _ => v = .string D2), (fun v _ => v = .string Z2), (fun v _ => v = .int .u64 k), (fun v _ => v = .int .u64 (V3 : Int)), (fun v _ => v = .int .i64 (V3 : Int)), (fun v _ => v = .int .i64 (V4 : Int)), (fun v _ => v = .string D4), (fun v _ => v = .string S), (fun v _ => v = .string S), (fun v _ => v = .int .i64 (S.size : Int)), (fun v _ => v = .int .i64 (M : Int)), (fun v _ => v = .string X), (fun v _ => v = .string S), (fun v _ => v = .string A), (Lits 7 [.string s0, .string S, .string D1, .string Z2, .string D4, .string X, .string A]), (fun v _ => v = .int .i64 7), (fun v _ => v = .int .i64 0)] 15 (f 15) w' := hf (15, 60) (by simp) (by rfl)
        have h20 : slotOf [(fun v _ => v = .string s0), (fun v _ => v = .string S), (fun v _ => v = .int .u64 k), (fun v _ => v = .int .u64 (V1 : Int)), (fun v _ => v = .int .i64 (V1 : Int)), (fun v _ => v = .string D1), (fun v _ => v = .int .u64 k), (fun v _ => v = .int .u64 (V2 : Int)), (fun v _ => v = .int .i64 (V2 : Int)), (fun v _ => v = .string D2), (fun v _ => v = .string Z2), (fun v _ => v = .int .u64 k), (fun v _ => v = .int .u64 (V3 : Int)), (fun v _ => v = .int .i64 (V3 : Int)), (fun v _ => v = .int .i64 (V4 : Int)), (fun v _ => v = .string D4), (fun v _ => v = .string S), (fun v _ => v = .string S), (fun v _ => v = .int .i64 (S.size : Int)), (fun v _ => v = .int .i64 (M : Int)), (fun v _ => v = .string X), (fun v _ => v = .string S), (fun v _ => v = .string A), (Lits 7 [.string s0, .string S, .string D1, .string Z2, .string D4, .string X, .string A]), (fun v _ => v = .int .i64 7), (fun v _ => v = .int .i64 0)] 20 (f 20) w' := hf (20, 65) (by simp) (by rfl)
        have h22 : slotOf [(fun v _ => v = .string s0), (fun v _ => v = .string S), (fun v _ => v = .int .u64 k), (fun v _ => v = .int .u64 (V1 : Int)), (fun v _ => v = .int .i64 (V1 : Int)), (fun v _ => v = .string D1), (fun v _ => v = .int .u64 k), (fun v _ => v = .int .u64 (V2 : Int)), (fun v _ => v = .int .i64 (V2 : Int)), (fun v _ => v = .string D2), (fun v _ => v = .string Z2), (fun v _ => v = .int .u64 k), (fun v _ => v = .int .u64 (V3 : Int)), (fun v _ => v = .int .i64 (V3 : Int)), (fun v _ => v = .int .i64 (V4 : Int)), (fun v _ => v = .string D4), (fun v _ => v = .string S), (fun v _ => v = .string S), (fun v _ => v = .int .i64 (S.size : Int)), (fun v _ => v = .int .i64 (M : Int)), (fun v _ => v = .string X), (fun v _ => v = .string S), (fun v _ => v = .string A), (Lits 7 [.string s0, .string S, .string D1, .string Z2, .string D4, .string X, .string A]), (fun v _ => v = .int .i64 7), (fun v _ => v = .int .i64 0)] 22 (f 22) w' := hf (22, 67) (by simp) (by rfl)
        clear hf
        have e0 : f 0 = .string s0 := h0
        have e1 : f 1 = .string S := h1
        have e5 : f 5 = .string D1 := h5
        have e10 : f 10 = .string Z2 := h10
        have e15 : f 15 = .string D4 := h15
        have e20 : f 20 = .string X := h20
        have e22 : f 22 = .string A := h22
        refine slot_op rfl (fun _ => rfl) (fun T hT K hK => ?_)
        simp only [putsL, List.set_cons_zero, List.set_cons_succ, e0, e1, e5, e10, e15, e20, e22] at hT
        subst hT
        go_simp
        refine hK.out _ _ ⟨_, rfl, fun j u hj => ?_⟩ ((B.refl _).alloc _ _)
        rw [World.cell?_alloc_new]
        simpa using hj
      · intro f w' hf hB
        have h23 : slotOf [(fun v _ => v = .string s0), (fun v _ => v = .string S), (fun v _ => v = .int .u64 k), (fun v _ => v = .int .u64 (V1 : Int)), (fun v _ => v = .int .i64 (V1 : Int)), (fun v _ => v = .string D1), (fun v _ => v = .int .u64 k), (fun v _ => v = .int .u64 (V2 : Int)), (fun v _ => v = .int .i64 (V2 : Int)), (fun v _ => v = .string D2), (fun v _ => v = .string Z2), (fun v _ => v = .int .u64 k), (fun v _ => v = .int .u64 (V3 : Int)), (fun v _ => v = .int .i64 (V3 : Int)), (fun v _ => v = .int .i64 (V4 : Int)), (fun v _ => v = .string D4), (fun v _ => v = .string S), (fun v _ => v = .string S), (fun v _ => v = .int .i64 (S.size : Int)), (fun v _ => v = .int .i64 (M : Int)), (fun v _ => v = .string X), (fun v _ => v = .string S), (fun v _ => v = .string A), (Lits 7 [.string s0, .string S, .string D1, .string Z2, .string D4, .string X, .string A]), (fun v _ => v = .int .i64 7), (fun v _ => v = .int .i64 0)] 23 (f 23) w' := hf (23, 68) (by simp) (by rfl)
        clear hf
        obtain ⟨bb, e23, _⟩ := h23
        refine slot_op rfl (fun _ => rfl) (fun T hT K hK => ?_)
        simp only [putsL, List.set_cons_zero, List.set_cons_succ, e23] at hT
        subst hT
        go_simp
        exact hK.out _ _ rfl (B.refl _)
      · intro f w' hf hB
        clear hf
        refine slot_op rfl (fun _ => rfl) (fun T hT K hK => ?_)
        simp only [putsL, List.set_cons_zero, List.set_cons_succ] at hT
        subst hT
        go_simp
        exact hK.out _ _ rfl (B.refl _)
      · intro f w' hf hB T hT
        have h23 : slotOf [(fun v _ => v = .string s0), (fun v _ => v = .string S), (fun v _ => v = .int .u64 k), (fun v _ => v = .int .u64 (V1 : Int)), (fun v _ => v = .int .i64 (V1 : Int)), (fun v _ => v = .string D1), (fun v _ => v = .int .u64 k), (fun v _ => v = .int .u64 (V2 : Int)), (fun v _ => v = .int .i64 (V2 : Int)), (fun v _ => v = .string D2), (fun v _ => v = .string Z2), (fun v _ => v = .int .u64 k), (fun v _ => v = .int .u64 (V3 : Int)), (fun v _ => v = .int .i64 (V3 : Int)), (fun v _ => v = .int .i64 (V4 : Int)), (fun v _ => v = .string D4), (fun v _ => v = .string S), (fun v _ => v = .string S), (fun v _ => v = .int .i64 (S.size : Int)), (fun v _ => v = .int .i64 (M : Int)), (fun v _ => v = .string X), (fun v _ => v = .string S), (fun v _ => v = .string A), (Lits 7 [.string s0, .string S, .string D1, .string Z2, .string D4, .string X, .string A]), (fun v _ => v = .int .i64 7), (fun v _ => v = .int .i64 0)] 23 (f 23) w' := hf (23, 68) (by simp)
        have h24 : f 24 = _ := hf (24, 69) (by simp)
        have h25 : f 25 = _ := hf (25, 70) (by simp)
        obtain ⟨bb, e23, hcs⟩ := h23
        clear hf
        simp only [putsL, List.set_cons_zero, List.set_cons_succ, e23, h24, h25] at hT
        subst hT
        refine wpSeq_done ?_
        refine NoPanic.normal ?_
        have HB := Lib.hid (HW.out.trans hB)
        have HC := Lib.hid (show ∀ j, j < 7 → ∃ x : ByteArray, w'.cell? ⟨bb, j, none⟩ = some (.string x) from fun j hj => by
          have hx : ∀ j, j < 7 → ∃ x : ByteArray, ([.string s0, .string S, .string D1, .string Z2, .string D4, .string X, .string A] : List Value)[j]? = some (.string x) := by
            intro j hj
            match j, hj with
            | 0, _ => exact ⟨_, rfl⟩
            | 1, _ => exact ⟨_, rfl⟩
            | 2, _ => exact ⟨_, rfl⟩
            | 3, _ => exact ⟨_, rfl⟩
            | 4, _ => exact ⟨_, rfl⟩
            | 5, _ => exact ⟨_, rfl⟩
            | 6, _ => exact ⟨_, rfl⟩
          obtain ⟨x, hx⟩ := hx j hj
          exact ⟨x, hcs j _ hx⟩)
        clear hcs e23 h24 h25 hB cD1 cD2 cD4 hsM hmin
        obtain ⟨wB, hwB⟩ : ∃ wB, w' = wB := ⟨_, rfl⟩
        rw [hwB] at HB HC ⊢
        clear hwB
        go_wp2
        go_loopw [70] (fun jv wr => ∃ j : Nat, j ≤ 7 ∧ jv = .int .i64 j ∧ B wB wr) (fun jv _ => 8 - (intOf jv).toNat)
        case atStart => exact ⟨0, by omega, rfl, B.refl _⟩
        case round =>
          obtain ⟨j, hj, rfl, hBj⟩ := hrel
          obtain ⟨wv, rfl⟩ : ∃ wv : World, wv = wr := ⟨_, rfl⟩
          by_cases hl2 : j < 7
          · have hjB : decide ((j : Int) < 7) = true := decide_eq_true (by omega)
            have hjI : (j : Int) < 7 := by omega
            have hj0 : (0 : Int) ≤ (j : Int) := by omega
            have wk1 : IntKind.i64.wrap ((j : Int) + 1) = (j : Int) + 1 := by rw [IntKind.wrap_i64]; omega
            obtain ⟨x, kc⟩ := HC.out j hl2
            replace kc := hBj.keep kc
            have c1 := fun w => number_any x w
            unfold NumRes at c1
            have c2 := fun w => r8number_any x w
            have c3 := fun w => name_any x w
            have c4 := fun w => r8name_any x w
            have n1 : ((numV x : Int) != (numV x : Int)) = false := by simp
            have n2 : (numOk x != numOk x) = false := by simp
            have n3 : (nameS x != nameS x) = false := by simp
            generalize numV x = NV at *
            generalize numOk x = NO at *
            generalize nameS x = NS at *
            have HL := Lib.hid hl2
            replace hBj := Lib.hid hBj
            clear hl2
            go_wp2_with fail
            refine (c1 _).mono ?_
            rintro e w5 ⟨rfl, q5⟩
            go_wp2_with fail
            refine (c2 _).mono ?_
            rintro e w6 ⟨rfl, rfl⟩
            go_wp2_with fail
            refine (c3 _).mono ?_
            rintro e w7 ⟨rfl, q7⟩
            go_wp2_with fail
            refine (c4 _).mono ?_
            rintro e w8 ⟨rfl, rfl⟩
            have HR := Lib.hid ((hBj.out.trans q5).trans q7)
            clear q5 q7 c1 c2 c3 c4
            go_wp2
            go_roundw
            case rel => exact ⟨j + 1, by have := HL.out; omega, by go_num, HR.out⟩
            case measure => have := HL.out; simp [intOf]; omega
          · have hjB : decide ((j : Int) < 7) = false := decide_eq_false (by omega)
            have HR := Lib.hid (HB.out.trans hBj)
            clear hBj
            go_wp2
            go_ret
            exact ⟨rfl, HR.out⟩
end Go.Proofs.Ytknpabijhmcjhaa
