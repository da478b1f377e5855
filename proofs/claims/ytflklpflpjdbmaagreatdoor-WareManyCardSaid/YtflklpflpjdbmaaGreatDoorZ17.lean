/-
  The statements' words: the document's lines as the program's; Lines of words held against one another; Contracts of answers held against one another: decks that are the same; Contracts of the document's look at names.
-/
import Derived.Test.YtflklpflpjdbmaaGreatDoorChecked
import Derived.Lib.Hide
import Derived.KernelRfl
import Derived.Deep.QuietTactic
import Derived.BigQuiet
import Derived.Laws.StructEq
import Derived.Test.YtflklpflpjdbmaaGreatDoorZ1
import Derived.Test.YtflklpflpjdbmaaGreatDoorZ2
import Derived.Test.YtflklpflpjdbmaaGreatDoorZ3
import Derived.Test.YtflklpflpjdbmaaGreatDoorZ4
import Derived.Test.YtflklpflpjdbmaaGreatDoorZ13
import Derived.Test.YtflklpflpjdbmaaGreatDoorZ15
import Derived.Test.YtflklpflpjdbmaaGreatDoorZ16
namespace Go.Proofs.YtflklpflpjdbmaaGreatDoor
open Go.RowKit
set_option linter.unusedVariables false
theorem lnInfoW : (Tryz.prog.info? 108).map (fun i => (i.zero, i.size, i.bytes)) = some (some (.slice none 0 0), 1, 24) := by kernel_rfl
theorem wdInfoW : (Tryz.prog.info? 107).map (fun i => (i.zero, i.size, i.bytes)) = some (some (.agg #[.int .i64 0, .string .empty]), 2, 24) := by kernel_rfl
set_option maxHeartbeats 4000000 in
set_option maxRecDepth 100000 in
theorem words9_any (v : Value) (LL : List (List Wd)) (w : World) (h : IsLnO w v LL) (hne : ∀ L ∈ LL, 0 < L.length) (hL : LL.length ≤ 65536) (hws : ∀ L ∈ LL, L.length ≤ 65536) :
    Calls Tryz.prog 16 #[v] w fun e w' => ∃ u vs, e = .returned u ∧ LinesO w' w.heap.size 108 u LL vs ∧ B w w' := by
  obtain ⟨ao, ac, rfl⟩ := h.form
  obtain ⟨i0, hi0, hz0, hz1, hz2⟩ := info_of lnInfoW
  obtain ⟨i1, hi1, hy0, hy1, hy2⟩ := info_of wdInfoW
  go_enter Tryz.func16, Tryz.ntmps16
  go_wp2
  go_loopw [3, 4] (fun ov iv wr => ∃ (i : Nat) (ao1 : Option Addr) (c1 : Nat) (vs : List Value), i ≤ LL.length ∧ iv = .int .i64 i ∧ ov = .slice ao1 i c1 ∧ LinesO wr w.heap.size 108 (.slice ao1 i c1) (LL.take i) vs ∧ B w wr) (fun _ iv _ => LL.length + 1 - (intOf iv).toNat)
  case atStart => exact ⟨0, none, 0, [], Nat.zero_le _, rfl, rfl, LinesO.nil _ _ _, B.refl _⟩
  case round =>
    obtain ⟨i, ao1, c1, vs, hi, rfl, rfl, hO, hB⟩ := hrel
    obtain ⟨wo, rfl⟩ : ∃ wo : World, wo = wr := ⟨_, rfl⟩
    by_cases hl : i < LL.length
    · have hlB : decide ((i : Int) < (LL.length : Int)) = true := decide_eq_true (by omega)
      have hlI : (i : Int) < (LL.length : Int) := by omega
      have hi0' : (0 : Int) ≤ (i : Int) := by omega
      have wk1 : IntKind.i64.wrap ((i : Int) + 1) = (i : Int) + 1 := by rw [IntKind.wrap_i64]; omega
      obtain ⟨L, hF⟩ : ∃ L, LL[i]? = some L := ⟨_, List.getElem?_eq_getElem hl⟩
      have hFe : LL[i] = L := by rw [List.getElem?_eq_getElem hl] at hF; simpa using hF
      obtain ⟨g, o, cap, u, e1, hu, hW⟩ := h.at_ hl
      rw [hFe] at hW
      obtain ⟨rfl, _, rfl⟩ : ao = some ⟨g, o, none⟩ ∧ True ∧ ac = cap := by simpa using e1
      have hLne := hne L (List.mem_of_getElem? hF)
      have hL16 := hws L (List.mem_of_getElem? hF)
      obtain ⟨gl, cl, rfl, _, _, hgl, hwd⟩ := hW.full hLne
      have hu0 := hB.keep hu
      have ht1 : LL.take (i + 1) = LL.take i ++ [L] := by rw [List.take_add_one, hF]; rfl
      have htl : (LL.take i).length = i := by rw [List.length_take]; omega
      have HO := Lib.hid (And.intro ht1 (And.intro htl hl))
      clear ht1 e1 hF hFe hl
      go_wp2
      go_loopw [5, 6] (fun lv kv wr => ∃ (k : Nat) (ao2 : Option Addr) (c2 : Nat), k ≤ L.length ∧ kv = .int .i64 k ∧ lv = .slice ao2 k c2 ∧ LinesO wr w.heap.size 108 (.slice ao1 i c1) (LL.take i) vs ∧ wr.ownsRow w.heap.size 107 2 (.slice ao2 k c2) k (flatW (L.take k)) ∧ B w wr ∧ Apart (.slice ao2 k c2) (.slice ao1 i c1) vs) (fun _ kv _ => L.length + 1 - (intOf kv).toNat)
      case atStart => exact ⟨0, none, 0, Nat.zero_le _, rfl, rfl, hO, World.ownsRow_nil _ _ _ _, hB, apart_nil _ _⟩
      case round =>
        obtain ⟨k, ao2, c2, hk, rfl, rfl, hO2, hown, hB2, hap⟩ := hrel
        obtain ⟨wv, rfl⟩ : ∃ wv : World, wv = wr := ⟨_, rfl⟩
        have hu2 := hB2.keep hu
        by_cases hlk : k < L.length
        · have hkB : decide ((k : Int) < (L.length : Int)) = true := decide_eq_true (by omega)
          have hkI : (k : Int) < (L.length : Int) := by omega
          have hk0 : (0 : Int) ≤ (k : Int) := by omega
          have wk2 : IntKind.i64.wrap ((k : Int) + 1) = (k : Int) + 1 := by rw [IntKind.wrap_i64]; omega
          obtain ⟨x, hx⟩ : ∃ x, L[k]? = some x := ⟨_, List.getElem?_eq_getElem hlk⟩
          obtain ⟨n1, n2⟩ := hwd k x hx
          have hfl : flatW (L.take (k + 1)) = flatW (L.take k) ++ [.int .i64 ((x.1 : Nat) : Int), .string (strB x.2)] := by rw [List.take_add_one, hx]; exact flatW_snoc _ x
          have htk0 : k ≤ 65536 := by omega
          obtain ⟨A, hA⟩ : ∃ A, x.1 = A := ⟨_, rfl⟩
          obtain ⟨S, hS⟩ : ∃ S, strB x.2 = S := ⟨_, rfl⟩
          rw [hA, hS] at hfl
          rw [hA] at n1
          rw [hS] at n2
          have kB : ∀ w', B wv w' → w'.cell? ⟨g, o + i, none⟩ = some (.slice (some ⟨gl, 0, none⟩) L.length cl) ∧ w'.cell? ⟨gl, k * 2, none⟩ = some (.int .i64 (A : Int)) ∧ w'.cell? ⟨gl, k * 2 + 1, none⟩ = some (.string S) :=
            fun w' q => ⟨q.keep hu2, (hB2.trans q).keep n1, (hB2.trans q).keep n2⟩
          have HI := Lib.hid (And.intro hO2 (And.intro hown (And.intro hB2 hap)))
          have HM := Lib.hid (And.intro htk0 (And.intro hfl (And.intro hlk hL16)))
          clear hO2 hown hB2 hap htk0 hfl hlk hx hA hS n1 n2 hu hu0 hO hB hwd hW hgl h hne hws hi hk
          go_wp2_with fail
          refine wp_region_noPanic ?_
          refine wp_region_slots [(0, 22), (1, 23), (2, 24), (3, 25), (4, 26), (5, 27), (6, 28), (7, 29), (8, 30), (9, 31), (10, 32), (11, 33), (12, 34), (13, 35), (14, 36), (15, 37), (16, 38), (17, 39), (18, 40)] [(19, 2), (20, 0)] [0, 0, 0, 6, 8, 0, 48, 64, 128, 0, 0, 1536, 2048, 0, 12288, 16384, 32768, 65792, 131072, 262145, 1048575] [0, 0, 0, 6, 8, 0, 48, 64, 128, 0, 0, 1536, 2048, 0, 12288, 16384, 32768, 65792, 131072, 262145, 524289] [0, 0, 0, 6, 14, 0, 62, 126, 254, 0, 0, 1536, 3584, 0, 15872, 32256, 65024, 131070, 262142, 524287, 1048575] 524287 [(fun v _ => v = .slice ao2 k c2), (fun v _ => v = .slice (some ⟨g, o, none⟩) LL.length ac), (fun v _ => v = .int .i64 (i : Int)), (fun v _ => v = .pointer (some ⟨g, o + i, none⟩)), (fun v _ => v = .slice (some ⟨gl, 0, none⟩) L.length cl), (fun v _ => v = .int .i64 (k : Int)), (fun v _ => v = .pointer (some ⟨gl, k * 2, none⟩)), (fun v _ => v = .pointer (some ⟨gl, k * 2, none⟩)), (fun v _ => v = .int .i64 (A : Int)), (fun v _ => v = .slice (some ⟨g, o, none⟩) LL.length ac), (fun v _ => v = .int .i64 (i : Int)), (fun v _ => v = .pointer (some ⟨g, o + i, none⟩)), (fun v _ => v = .slice (some ⟨gl, 0, none⟩) L.length cl), (fun v _ => v = .int .i64 (k : Int)), (fun v _ => v = .pointer (some ⟨gl, k * 2, none⟩)), (fun v _ => v = .pointer (some ⟨gl, k * 2 + 1, none⟩)), (fun v _ => v = .string S), (fun v _ => v = .agg #[.int .i64 (A : Int), .string S]), (Lits 1 [.int .i64 (A : Int), .string S])] (by kernel_rfl) (by kernel_rfl) (fun _ _ _ _ h => h) ⟨slot_val _, slot_val _, slot_val _, slot_val _, slot_val _, slot_val _, slot_val _, slot_val _, slot_val _, slot_val _, slot_val _, slot_val _, slot_val _, slot_val _, slot_val _, slot_val _, slot_val _, slot_val _, slot_lits _ _, trivial⟩ ⟨?_, ?_, ?_, ?_, ?_, ?_, ?_, ?_, ?_, ?_, ?_, ?_, ?_, ?_, ?_, ?_, ?_, ?_, ?_, trivial⟩ ?_
          · intro f w' hf hB
            clear hf
            refine slot_op rfl (fun _ => rfl) (fun T hT K hK => ?_)
            simp only [putsL, List.set_cons_zero, List.set_cons_succ] at hT
            subst hT
            go_simp
            exact hK.out _ _ rfl (B.refl _)
          · intro f w' hf hB
            clear hf
            refine slot_op rfl (fun _ => rfl) (fun T hT K hK => ?_)
            simp only [putsL, List.set_cons_zero, List.set_cons_succ] at hT
            subst hT
            go_simp
            exact hK.out _ _ rfl (B.refl _)
          · intro f w' hf hB
            clear hf
            refine slot_op rfl (fun _ => rfl) (fun T hT K hK => ?_)
            simp only [putsL, List.set_cons_zero, List.set_cons_succ] at hT
            subst hT
            go_simp
            exact hK.out _ _ rfl (B.refl _)
          · intro f w' hf hB
            have h1 : slotOf [(fun v _ => v = .slice ao2 k c2), (fun v _ => v = .slice (some ⟨g, o, none⟩) LL.length ac), (fun v _ => v = .int .i64 (i : Int)), (fun v _ => v = .pointer (some ⟨g, o + i, none⟩)), (fun v _ => v = .slice (some ⟨gl, 0, none⟩) L.length cl), (fun v _ => v = .int .i64 (k : Int)), (fun v _ => v = .pointer (some ⟨gl, k * 2, none⟩)), (fun v _ => v = .pointer (some ⟨gl, k * 2, none⟩)), (fun v _ => v = .int .i64 (A : Int)), (fun v _ => v = .slice (some ⟨g, o, none⟩) LL.length ac), (fun v _ => v = .int .i64 (i : Int)), (fun v _ => v = .pointer (some ⟨g, o + i, none⟩)), (fun v _ => v = .slice (some ⟨gl, 0, none⟩) L.length cl), (fun v _ => v = .int .i64 (k : Int)), (fun v _ => v = .pointer (some ⟨gl, k * 2, none⟩)), (fun v _ => v = .pointer (some ⟨gl, k * 2 + 1, none⟩)), (fun v _ => v = .string S), (fun v _ => v = .agg #[.int .i64 (A : Int), .string S]), (Lits 1 [.int .i64 (A : Int), .string S])] 1 (f 1) w' := hf (1, 23) (by simp) (by rfl)
            have h2 : slotOf [(fun v _ => v = .slice ao2 k c2), (fun v _ => v = .slice (some ⟨g, o, none⟩) LL.length ac), (fun v _ => v = .int .i64 (i : Int)), (fun v _ => v = .pointer (some ⟨g, o + i, none⟩)), (fun v _ => v = .slice (some ⟨gl, 0, none⟩) L.length cl), (fun v _ => v = .int .i64 (k : Int)), (fun v _ => v = .pointer (some ⟨gl, k * 2, none⟩)), (fun v _ => v = .pointer (some ⟨gl, k * 2, none⟩)), (fun v _ => v = .int .i64 (A : Int)), (fun v _ => v = .slice (some ⟨g, o, none⟩) LL.length ac), (fun v _ => v = .int .i64 (i : Int)), (fun v _ => v = .pointer (some ⟨g, o + i, none⟩)), (fun v _ => v = .slice (some ⟨gl, 0, none⟩) L.length cl), (fun v _ => v = .int .i64 (k : Int)), (fun v _ => v = .pointer (some ⟨gl, k * 2, none⟩)), (fun v _ => v = .pointer (some ⟨gl, k * 2 + 1, none⟩)), (fun v _ => v = .string S), (fun v _ => v = .agg #[.int .i64 (A : Int), .string S]), (Lits 1 [.int .i64 (A : Int), .string S])] 2 (f 2) w' := hf (2, 24) (by simp) (by rfl)
            clear hf
            have e1 : f 1 = .slice (some ⟨g, o, none⟩) LL.length ac := h1
            have e2 : f 2 = .int .i64 (i : Int) := h2
            refine slot_op rfl (fun _ => rfl) (fun T hT K hK => ?_)
            simp only [putsL, List.set_cons_zero, List.set_cons_succ, e1, e2] at hT
            subst hT
            go_simp
            exact hK.out _ _ rfl (B.refl _)
          · intro f w' hf hB
            have h3 : slotOf [(fun v _ => v = .slice ao2 k c2), (fun v _ => v = .slice (some ⟨g, o, none⟩) LL.length ac), (fun v _ => v = .int .i64 (i : Int)), (fun v _ => v = .pointer (some ⟨g, o + i, none⟩)), (fun v _ => v = .slice (some ⟨gl, 0, none⟩) L.length cl), (fun v _ => v = .int .i64 (k : Int)), (fun v _ => v = .pointer (some ⟨gl, k * 2, none⟩)), (fun v _ => v = .pointer (some ⟨gl, k * 2, none⟩)), (fun v _ => v = .int .i64 (A : Int)), (fun v _ => v = .slice (some ⟨g, o, none⟩) LL.length ac), (fun v _ => v = .int .i64 (i : Int)), (fun v _ => v = .pointer (some ⟨g, o + i, none⟩)), (fun v _ => v = .slice (some ⟨gl, 0, none⟩) L.length cl), (fun v _ => v = .int .i64 (k : Int)), (fun v _ => v = .pointer (some ⟨gl, k * 2, none⟩)), (fun v _ => v = .pointer (some ⟨gl, k * 2 + 1, none⟩)), (fun v _ => v = .string S), (fun v _ => v = .agg #[.int .i64 (A : Int), .string S]), (Lits 1 [.int .i64 (A : Int), .string S])] 3 (f 3) w' := hf (3, 25) (by simp) (by rfl)
            clear hf
            have e3 : f 3 = .pointer (some ⟨g, o + i, none⟩) := h3
            obtain ⟨k0, k1, k2⟩ := kB _ hB
            refine slot_op rfl (fun _ => rfl) (fun T hT K hK => ?_)
            simp only [putsL, List.set_cons_zero, List.set_cons_succ, e3] at hT
            subst hT
            go_simp
            exact hK.out _ _ rfl (B.refl _)
          · intro f w' hf hB
            clear hf
            refine slot_op rfl (fun _ => rfl) (fun T hT K hK => ?_)
            simp only [putsL, List.set_cons_zero, List.set_cons_succ] at hT
            subst hT
            go_simp
            exact hK.out _ _ rfl (B.refl _)
          · intro f w' hf hB
            have h4 : slotOf [(fun v _ => v = .slice ao2 k c2), (fun v _ => v = .slice (some ⟨g, o, none⟩) LL.length ac), (fun v _ => v = .int .i64 (i : Int)), (fun v _ => v = .pointer (some ⟨g, o + i, none⟩)), (fun v _ => v = .slice (some ⟨gl, 0, none⟩) L.length cl), (fun v _ => v = .int .i64 (k : Int)), (fun v _ => v = .pointer (some ⟨gl, k * 2, none⟩)), (fun v _ => v = .pointer (some ⟨gl, k * 2, none⟩)), (fun v _ => v = .int .i64 (A : Int)), (fun v _ => v = .slice (some ⟨g, o, none⟩) LL.length ac), (fun v _ => v = .int .i64 (i : Int)), (fun v _ => v = .pointer (some ⟨g, o + i, none⟩)), (fun v _ => v = .slice (some ⟨gl, 0, none⟩) L.length cl), (fun v _ => v = .int .i64 (k : Int)), (fun v _ => v = .pointer (some ⟨gl, k * 2, none⟩)), (fun v _ => v = .pointer (some ⟨gl, k * 2 + 1, none⟩)), (fun v _ => v = .string S), (fun v _ => v = .agg #[.int .i64 (A : Int), .string S]), (Lits 1 [.int .i64 (A : Int), .string S])] 4 (f 4) w' := hf (4, 26) (by simp) (by rfl)
            have h5 : slotOf [(fun v _ => v = .slice ao2 k c2), (fun v _ => v = .slice (some ⟨g, o, none⟩) LL.length ac), (fun v _ => v = .int .i64 (i : Int)), (fun v _ => v = .pointer (some ⟨g, o + i, none⟩)), (fun v _ => v = .slice (some ⟨gl, 0, none⟩) L.length cl), (fun v _ => v = .int .i64 (k : Int)), (fun v _ => v = .pointer (some ⟨gl, k * 2, none⟩)), (fun v _ => v = .pointer (some ⟨gl, k * 2, none⟩)), (fun v _ => v = .int .i64 (A : Int)), (fun v _ => v = .slice (some ⟨g, o, none⟩) LL.length ac), (fun v _ => v = .int .i64 (i : Int)), (fun v _ => v = .pointer (some ⟨g, o + i, none⟩)), (fun v _ => v = .slice (some ⟨gl, 0, none⟩) L.length cl), (fun v _ => v = .int .i64 (k : Int)), (fun v _ => v = .pointer (some ⟨gl, k * 2, none⟩)), (fun v _ => v = .pointer (some ⟨gl, k * 2 + 1, none⟩)), (fun v _ => v = .string S), (fun v _ => v = .agg #[.int .i64 (A : Int), .string S]), (Lits 1 [.int .i64 (A : Int), .string S])] 5 (f 5) w' := hf (5, 27) (by simp) (by rfl)
            clear hf
            have e4 : f 4 = .slice (some ⟨gl, 0, none⟩) L.length cl := h4
            have e5 : f 5 = .int .i64 (k : Int) := h5
            refine slot_op rfl (fun _ => rfl) (fun T hT K hK => ?_)
            simp only [putsL, List.set_cons_zero, List.set_cons_succ, e4, e5] at hT
            subst hT
            go_simp
            exact hK.out _ _ rfl (B.refl _)
          · intro f w' hf hB
            have h6 : slotOf [(fun v _ => v = .slice ao2 k c2), (fun v _ => v = .slice (some ⟨g, o, none⟩) LL.length ac), (fun v _ => v = .int .i64 (i : Int)), (fun v _ => v = .pointer (some ⟨g, o + i, none⟩)), (fun v _ => v = .slice (some ⟨gl, 0, none⟩) L.length cl), (fun v _ => v = .int .i64 (k : Int)), (fun v _ => v = .pointer (some ⟨gl, k * 2, none⟩)), (fun v _ => v = .pointer (some ⟨gl, k * 2, none⟩)), (fun v _ => v = .int .i64 (A : Int)), (fun v _ => v = .slice (some ⟨g, o, none⟩) LL.length ac), (fun v _ => v = .int .i64 (i : Int)), (fun v _ => v = .pointer (some ⟨g, o + i, none⟩)), (fun v _ => v = .slice (some ⟨gl, 0, none⟩) L.length cl), (fun v _ => v = .int .i64 (k : Int)), (fun v _ => v = .pointer (some ⟨gl, k * 2, none⟩)), (fun v _ => v = .pointer (some ⟨gl, k * 2 + 1, none⟩)), (fun v _ => v = .string S), (fun v _ => v = .agg #[.int .i64 (A : Int), .string S]), (Lits 1 [.int .i64 (A : Int), .string S])] 6 (f 6) w' := hf (6, 28) (by simp) (by rfl)
            clear hf
            have e6 : f 6 = .pointer (some ⟨gl, k * 2, none⟩) := h6
            refine slot_op rfl (fun _ => rfl) (fun T hT K hK => ?_)
            simp only [putsL, List.set_cons_zero, List.set_cons_succ, e6] at hT
            subst hT
            go_simp
            exact hK.out _ _ rfl (B.refl _)
          · intro f w' hf hB
            have h7 : slotOf [(fun v _ => v = .slice ao2 k c2), (fun v _ => v = .slice (some ⟨g, o, none⟩) LL.length ac), (fun v _ => v = .int .i64 (i : Int)), (fun v _ => v = .pointer (some ⟨g, o + i, none⟩)), (fun v _ => v = .slice (some ⟨gl, 0, none⟩) L.length cl), (fun v _ => v = .int .i64 (k : Int)), (fun v _ => v = .pointer (some ⟨gl, k * 2, none⟩)), (fun v _ => v = .pointer (some ⟨gl, k * 2, none⟩)), (fun v _ => v = .int .i64 (A : Int)), (fun v _ => v = .slice (some ⟨g, o, none⟩) LL.length ac), (fun v _ => v = .int .i64 (i : Int)), (fun v _ => v = .pointer (some ⟨g, o + i, none⟩)), (fun v _ => v = .slice (some ⟨gl, 0, none⟩) L.length cl), (fun v _ => v = .int .i64 (k : Int)), (fun v _ => v = .pointer (some ⟨gl, k * 2, none⟩)), (fun v _ => v = .pointer (some ⟨gl, k * 2 + 1, none⟩)), (fun v _ => v = .string S), (fun v _ => v = .agg #[.int .i64 (A : Int), .string S]), (Lits 1 [.int .i64 (A : Int), .string S])] 7 (f 7) w' := hf (7, 29) (by simp) (by rfl)
            clear hf
            have e7 : f 7 = .pointer (some ⟨gl, k * 2, none⟩) := h7
            obtain ⟨k0, k1, k2⟩ := kB _ hB
            refine slot_op rfl (fun _ => rfl) (fun T hT K hK => ?_)
            simp only [putsL, List.set_cons_zero, List.set_cons_succ, e7] at hT
            subst hT
            go_simp
            exact hK.out _ _ rfl (B.refl _)
          · intro f w' hf hB
            clear hf
            refine slot_op rfl (fun _ => rfl) (fun T hT K hK => ?_)
            simp only [putsL, List.set_cons_zero, List.set_cons_succ] at hT
            subst hT
            go_simp
            exact hK.out _ _ rfl (B.refl _)
          · intro f w' hf hB
            clear hf
            refine slot_op rfl (fun _ => rfl) (fun T hT K hK => ?_)
            simp only [putsL, List.set_cons_zero, List.set_cons_succ] at hT
            subst hT
            go_simp
            exact hK.out _ _ rfl (B.refl _)
          · intro f w' hf hB
            have h9 : slotOf [(fun v _ => v = .slice ao2 k c2), (fun v _ => v = .slice (some ⟨g, o, none⟩) LL.length ac), (fun v _ => v = .int .i64 (i : Int)), (fun v _ => v = .pointer (some ⟨g, o + i, none⟩)), (fun v _ => v = .slice (some ⟨gl, 0, none⟩) L.length cl), (fun v _ => v = .int .i64 (k : Int)), (fun v _ => v = .pointer (some ⟨gl, k * 2, none⟩)), (fun v _ => v = .pointer (some ⟨gl, k * 2, none⟩)), (fun v _ => v = .int .i64 (A : Int)), (fun v _ => v = .slice (some ⟨g, o, none⟩) LL.length ac), (fun v _ => v = .int .i64 (i : Int)), (fun v _ => v = .pointer (some ⟨g, o + i, none⟩)), (fun v _ => v = .slice (some ⟨gl, 0, none⟩) L.length cl), (fun v _ => v = .int .i64 (k : Int)), (fun v _ => v = .pointer (some ⟨gl, k * 2, none⟩)), (fun v _ => v = .pointer (some ⟨gl, k * 2 + 1, none⟩)), (fun v _ => v = .string S), (fun v _ => v = .agg #[.int .i64 (A : Int), .string S]), (Lits 1 [.int .i64 (A : Int), .string S])] 9 (f 9) w' := hf (9, 31) (by simp) (by rfl)
            have h10 : slotOf [(fun v _ => v = .slice ao2 k c2), (fun v _ => v = .slice (some ⟨g, o, none⟩) LL.length ac), (fun v _ => v = .int .i64 (i : Int)), (fun v _ => v = .pointer (some ⟨g, o + i, none⟩)), (fun v _ => v = .slice (some ⟨gl, 0, none⟩) L.length cl), (fun v _ => v = .int .i64 (k : Int)), (fun v _ => v = .pointer (some ⟨gl, k * 2, none⟩)), (fun v _ => v = .pointer (some ⟨gl, k * 2, none⟩)), (fun v _ => v = .int .i64 (A : Int)), (fun v _ => v = .slice (some ⟨g, o, none⟩) LL.length ac), (fun v _ => v = .int .i64 (i : Int)), (fun v _ => v = .pointer (some ⟨g, o + i, none⟩)), (fun v _ => v = .slice (some ⟨gl, 0, none⟩) L.length cl), (fun v _ => v = .int .i64 (k : Int)), (fun v _ => v = .pointer (some ⟨gl, k * 2, none⟩)), (fun v _ => v = .pointer (some ⟨gl, k * 2 + 1, none⟩)), (fun v _ => v = .string S), (fun v _ => v = .agg #[.int .i64 (A : Int), .string S]), (Lits 1 [.int .i64 (A : Int), .string S])] 10 (f 10) w' := hf (10, 32) (by simp) (by rfl)
            clear hf
            have e9 : f 9 = .slice (some ⟨g, o, none⟩) LL.length ac := h9
            have e10 : f 10 = .int .i64 (i : Int) := h10
            refine slot_op rfl (fun _ => rfl) (fun T hT K hK => ?_)
            simp only [putsL, List.set_cons_zero, List.set_cons_succ, e9, e10] at hT
            subst hT
            go_simp
            exact hK.out _ _ rfl (B.refl _)
          · intro f w' hf hB
            have h11 : slotOf [(fun v _ => v = .slice ao2 k c2), (fun v _ => v = .slice (some ⟨g, o, none⟩) LL.length ac), (fun v _ => v = .int .i64 (i : Int)), (fun v _ => v = .pointer (some ⟨g, o + i, none⟩)), (fun v _ => v = .slice (some ⟨gl, 0, none⟩) L.length cl), (fun v _ => v = .int .i64 (k : Int)), (fun v _ => v = .pointer (some ⟨gl, k * 2, none⟩)), (fun v _ => v = .pointer (some ⟨gl, k * 2, none⟩)), (fun v _ => v = .int .i64 (A : Int)), (fun v _ => v = .slice (some ⟨g, o, none⟩) LL.length ac), (fun v _ => v = .int .i64 (i : Int)), (fun v _ => v = .pointer (some ⟨g, o + i, none⟩)), (fun v _ => v = .slice (some ⟨gl, 0, none⟩) L.length cl), (fun v _ => v = .int .i64 (k : Int)), (fun v _ => v = .pointer (some ⟨gl, k * 2, none⟩)), (fun v _ => v = .pointer (some ⟨gl, k * 2 + 1, none⟩)), (fun v _ => v = .string S), (fun v _ => v = .agg #[.int .i64 (A : Int), .string S]), (Lits 1 [.int .i64 (A : Int), .string S])] 11 (f 11) w' := hf (11, 33) (by simp) (by rfl)
            clear hf
            have e11 : f 11 = .pointer (some ⟨g, o + i, none⟩) := h11
            obtain ⟨k0, k1, k2⟩ := kB _ hB
            refine slot_op rfl (fun _ => rfl) (fun T hT K hK => ?_)
            simp only [putsL, List.set_cons_zero, List.set_cons_succ, e11] at hT
            subst hT
            go_simp
            exact hK.out _ _ rfl (B.refl _)
          · intro f w' hf hB
            clear hf
            refine slot_op rfl (fun _ => rfl) (fun T hT K hK => ?_)
            simp only [putsL, List.set_cons_zero, List.set_cons_succ] at hT
            subst hT
            go_simp
            exact hK.out _ _ rfl (B.refl _)
          · intro f w' hf hB
            have h12 : slotOf [(fun v _ => v = .slice ao2 k c2), (fun v _ => v = .slice (some ⟨g, o, none⟩) LL.length ac), (fun v _ => v = .int .i64 (i : Int)), (fun v _ => v = .pointer (some ⟨g, o + i, none⟩)), (fun v _ => v = .slice (some ⟨gl, 0, none⟩) L.length cl), (fun v _ => v = .int .i64 (k : Int)), (fun v _ => v = .pointer (some ⟨gl, k * 2, none⟩)), (fun v _ => v = .pointer (some ⟨gl, k * 2, none⟩)), (fun v _ => v = .int .i64 (A : Int)), (fun v _ => v = .slice (some ⟨g, o, none⟩) LL.length ac), (fun v _ => v = .int .i64 (i : Int)), (fun v _ => v = .pointer (some ⟨g, o + i, none⟩)), (fun v _ => v = .slice (some ⟨gl, 0, none⟩) L.length cl), (fun v _ => v = .int .i64 (k : Int)), (fun v _ => v = .pointer (some ⟨gl, k * 2, none⟩)), (fun v _ => v = .pointer (some ⟨gl, k * 2 + 1, none⟩)), (fun v _ => v = .string S), (fun v _ => v = .agg #[.int .i64 (A : Int), .string S]), (Lits 1 [.int .i64 (A : Int), .string S])] 12 (f 12) w' := hf (12, 34) (by simp) (by rfl)
            have h13 : slotOf [(fun v _ => v = .slice ao2 k c2), (fun v _ => v = .slice (some ⟨g, o, none⟩) LL.length ac), (fun v _ => v = .int .i64 (i : Int)), (fun v _ => v = .pointer (some ⟨g, o + i, none⟩)), (fun v _ => v = .slice (some ⟨gl, 0, none⟩) L.length cl), (fun v _ => v = .int .i64 (k : Int)), (fun v _ => v = .pointer (some ⟨gl, k * 2, none⟩)), (fun v _ => v = .pointer (some ⟨gl, k * 2, none⟩)), (fun v _ => v = .int .i64 (A : Int)), (fun v _ => v = .slice (some ⟨g, o, none⟩) LL.length ac), (fun v _ => v = .int .i64 (i : Int)), (fun v _ => v = .pointer (some ⟨g, o + i, none⟩)), (fun v _ => v = .slice (some ⟨gl, 0, none⟩) L.length cl), (fun v _ => v = .int .i64 (k : Int)), (fun v _ => v = .pointer (some ⟨gl, k * 2, none⟩)), (fun v _ => v = .pointer (some ⟨gl, k * 2 + 1, none⟩)), (fun v _ => v = .string S), (fun v _ => v = .agg #[.int .i64 (A : Int), .string S]), (Lits 1 [.int .i64 (A : Int), .string S])] 13 (f 13) w' := hf (13, 35) (by simp) (by rfl)
            clear hf
            have e12 : f 12 = .slice (some ⟨gl, 0, none⟩) L.length cl := h12
            have e13 : f 13 = .int .i64 (k : Int) := h13
            refine slot_op rfl (fun _ => rfl) (fun T hT K hK => ?_)
            simp only [putsL, List.set_cons_zero, List.set_cons_succ, e12, e13] at hT
            subst hT
            go_simp
            exact hK.out _ _ rfl (B.refl _)
          · intro f w' hf hB
            have h14 : slotOf [(fun v _ => v = .slice ao2 k c2), (fun v _ => v = .slice (some ⟨g, o, none⟩) LL.length ac), (fun v _ => v = .int .i64 (i : Int)), (fun v _ => v = .pointer (some ⟨g, o + i, none⟩)), (fun v _ => v = .slice (some ⟨gl, 0, none⟩) L.length cl), (fun v _ => v = .int .i64 (k : Int)), (fun v _ => v = .pointer (some ⟨gl, k * 2, none⟩)), (fun v _ => v = .pointer (some ⟨gl, k * 2, none⟩)), (fun v _ => v = .int .i64 (A : Int)), (fun v _ => v = .slice (some ⟨g, o, none⟩) LL.length ac), (fun v _ => v = .int .i64 (i : Int)), (fun v _ => v = .pointer (some ⟨g, o + i, none⟩)), (fun v _ => v = .slice (some ⟨gl, 0, none⟩) L.length cl), (fun v _ => v = .int .i64 (k : Int)), (fun v _ => v = .pointer (some ⟨gl, k * 2, none⟩)), (fun v _ => v = .pointer (some ⟨gl, k * 2 + 1, none⟩)), (fun v _ => v = .string S), (fun v _ => v = .agg #[.int .i64 (A : Int), .string S]), (Lits 1 [.int .i64 (A : Int), .string S])] 14 (f 14) w' := hf (14, 36) (by simp) (by rfl)
            clear hf
            have e14 : f 14 = .pointer (some ⟨gl, k * 2, none⟩) := h14
            refine slot_op rfl (fun _ => rfl) (fun T hT K hK => ?_)
            simp only [putsL, List.set_cons_zero, List.set_cons_succ, e14] at hT
            subst hT
            go_simp
            exact hK.out _ _ rfl (B.refl _)
          · intro f w' hf hB
            have h15 : slotOf [(fun v _ => v = .slice ao2 k c2), (fun v _ => v = .slice (some ⟨g, o, none⟩) LL.length ac), (fun v _ => v = .int .i64 (i : Int)), (fun v _ => v = .pointer (some ⟨g, o + i, none⟩)), (fun v _ => v = .slice (some ⟨gl, 0, none⟩) L.length cl), (fun v _ => v = .int .i64 (k : Int)), (fun v _ => v = .pointer (some ⟨gl, k * 2, none⟩)), (fun v _ => v = .pointer (some ⟨gl, k * 2, none⟩)), (fun v _ => v = .int .i64 (A : Int)), (fun v _ => v = .slice (some ⟨g, o, none⟩) LL.length ac), (fun v _ => v = .int .i64 (i : Int)), (fun v _ => v = .pointer (some ⟨g, o + i, none⟩)), (fun v _ => v = .slice (some ⟨gl, 0, none⟩) L.length cl), (fun v _ => v = .int .i64 (k : Int)), (fun v _ => v = .pointer (some ⟨gl, k * 2, none⟩)), (fun v _ => v = .pointer (some ⟨gl, k * 2 + 1, none⟩)), (fun v _ => v = .string S), (fun v _ => v = .agg #[.int .i64 (A : Int), .string S]), (Lits 1 [.int .i64 (A : Int), .string S])] 15 (f 15) w' := hf (15, 37) (by simp) (by rfl)
            clear hf
            have e15 : f 15 = .pointer (some ⟨gl, k * 2 + 1, none⟩) := h15
            obtain ⟨k0, k1, k2⟩ := kB _ hB
            refine slot_op rfl (fun _ => rfl) (fun T hT K hK => ?_)
            simp only [putsL, List.set_cons_zero, List.set_cons_succ, e15] at hT
            subst hT
            go_simp
            exact hK.out _ _ rfl (B.refl _)
          · intro f w' hf hB
            have h8 : slotOf [(fun v _ => v = .slice ao2 k c2), (fun v _ => v = .slice (some ⟨g, o, none⟩) LL.length ac), (fun v _ => v = .int .i64 (i : Int)), (fun v _ => v = .pointer (some ⟨g, o + i, none⟩)), (fun v _ => v = .slice (some ⟨gl, 0, none⟩) L.length cl), (fun v _ => v = .int .i64 (k : Int)), (fun v _ => v = .pointer (some ⟨gl, k * 2, none⟩)), (fun v _ => v = .pointer (some ⟨gl, k * 2, none⟩)), (fun v _ => v = .int .i64 (A : Int)), (fun v _ => v = .slice (some ⟨g, o, none⟩) LL.length ac), (fun v _ => v = .int .i64 (i : Int)), (fun v _ => v = .pointer (some ⟨g, o + i, none⟩)), (fun v _ => v = .slice (some ⟨gl, 0, none⟩) L.length cl), (fun v _ => v = .int .i64 (k : Int)), (fun v _ => v = .pointer (some ⟨gl, k * 2, none⟩)), (fun v _ => v = .pointer (some ⟨gl, k * 2 + 1, none⟩)), (fun v _ => v = .string S), (fun v _ => v = .agg #[.int .i64 (A : Int), .string S]), (Lits 1 [.int .i64 (A : Int), .string S])] 8 (f 8) w' := hf (8, 30) (by simp) (by rfl)
            have h16 : slotOf [(fun v _ => v = .slice ao2 k c2), (fun v _ => v = .slice (some ⟨g, o, none⟩) LL.length ac), (fun v _ => v = .int .i64 (i : Int)), (fun v _ => v = .pointer (some ⟨g, o + i, none⟩)), (fun v _ => v = .slice (some ⟨gl, 0, none⟩) L.length cl), (fun v _ => v = .int .i64 (k : Int)), (fun v _ => v = .pointer (some ⟨gl, k * 2, none⟩)), (fun v _ => v = .pointer (some ⟨gl, k * 2, none⟩)), (fun v _ => v = .int .i64 (A : Int)), (fun v _ => v = .slice (some ⟨g, o, none⟩) LL.length ac), (fun v _ => v = .int .i64 (i : Int)), (fun v _ => v = .pointer (some ⟨g, o + i, none⟩)), (fun v _ => v = .slice (some ⟨gl, 0, none⟩) L.length cl), (fun v _ => v = .int .i64 (k : Int)), (fun v _ => v = .pointer (some ⟨gl, k * 2, none⟩)), (fun v _ => v = .pointer (some ⟨gl, k * 2 + 1, none⟩)), (fun v _ => v = .string S), (fun v _ => v = .agg #[.int .i64 (A : Int), .string S]), (Lits 1 [.int .i64 (A : Int), .string S])] 16 (f 16) w' := hf (16, 38) (by simp) (by rfl)
            clear hf
            have e8 : f 8 = .int .i64 (A : Int) := h8
            have e16 : f 16 = .string S := h16
            refine slot_op rfl (fun _ => rfl) (fun T hT K hK => ?_)
            simp only [putsL, List.set_cons_zero, List.set_cons_succ, e8, e16] at hT
            subst hT
            go_simp
            exact hK.out _ _ rfl (B.refl _)
          · intro f w' hf hB
            have h17 : slotOf [(fun v _ => v = .slice ao2 k c2), (fun v _ => v = .slice (some ⟨g, o, none⟩) LL.length ac), (fun v _ => v = .int .i64 (i : Int)), (fun v _ => v = .pointer (some ⟨g, o + i, none⟩)), (fun v _ => v = .slice (some ⟨gl, 0, none⟩) L.length cl), (fun v _ => v = .int .i64 (k : Int)), (fun v _ => v = .pointer (some ⟨gl, k * 2, none⟩)), (fun v _ => v = .pointer (some ⟨gl, k * 2, none⟩)), (fun v _ => v = .int .i64 (A : Int)), (fun v _ => v = .slice (some ⟨g, o, none⟩) LL.length ac), (fun v _ => v = .int .i64 (i : Int)), (fun v _ => v = .pointer (some ⟨g, o + i, none⟩)), (fun v _ => v = .slice (some ⟨gl, 0, none⟩) L.length cl), (fun v _ => v = .int .i64 (k : Int)), (fun v _ => v = .pointer (some ⟨gl, k * 2, none⟩)), (fun v _ => v = .pointer (some ⟨gl, k * 2 + 1, none⟩)), (fun v _ => v = .string S), (fun v _ => v = .agg #[.int .i64 (A : Int), .string S]), (Lits 1 [.int .i64 (A : Int), .string S])] 17 (f 17) w' := hf (17, 39) (by simp) (by rfl)
            clear hf
            have e17 : f 17 = .agg #[.int .i64 (A : Int), .string S] := h17
            refine slot_op rfl (fun _ => rfl) (fun T hT K hK => ?_)
            simp only [putsL, List.set_cons_zero, List.set_cons_succ, e17] at hT
            subst hT
            go_simp
            refine hK.out _ _ ⟨_, rfl, fun j u hj => ?_⟩ ((B.refl _).alloc _ _)
            rw [World.cell?_alloc_new]
            simpa using hj
          · intro f w' hf hB T hT
            have h0 : f 0 = _ := hf (0, 22) (by simp)
            have h18 : slotOf [(fun v _ => v = .slice ao2 k c2), (fun v _ => v = .slice (some ⟨g, o, none⟩) LL.length ac), (fun v _ => v = .int .i64 (i : Int)), (fun v _ => v = .pointer (some ⟨g, o + i, none⟩)), (fun v _ => v = .slice (some ⟨gl, 0, none⟩) L.length cl), (fun v _ => v = .int .i64 (k : Int)), (fun v _ => v = .pointer (some ⟨gl, k * 2, none⟩)), (fun v _ => v = .pointer (some ⟨gl, k * 2, none⟩)), (fun v _ => v = .int .i64 (A : Int)), (fun v _ => v = .slice (some ⟨g, o, none⟩) LL.length ac), (fun v _ => v = .int .i64 (i : Int)), (fun v _ => v = .pointer (some ⟨g, o + i, none⟩)), (fun v _ => v = .slice (some ⟨gl, 0, none⟩) L.length cl), (fun v _ => v = .int .i64 (k : Int)), (fun v _ => v = .pointer (some ⟨gl, k * 2, none⟩)), (fun v _ => v = .pointer (some ⟨gl, k * 2 + 1, none⟩)), (fun v _ => v = .string S), (fun v _ => v = .agg #[.int .i64 (A : Int), .string S]), (Lits 1 [.int .i64 (A : Int), .string S])] 18 (f 18) w' := hf (18, 40) (by simp)
            obtain ⟨B2, e18, hcs⟩ := h18
            clear hf
            simp only [putsL, List.set_cons_zero, List.set_cons_succ, h0, e18] at hT
            subst hT
            have ownB := row_keep HI.out.2.1 hB
            have hOB := HI.out.1.keep hB
            have BB := HI.out.2.2.1.trans hB
            have hb3 : w.heap.size ≤ w'.heap.size := BB.below.size
            have hk16 := HM.out.1
            refine wpSeq_call rfl (by kernel_rfl) (fun K hK => ?_)
            refine wp_append_lies _ (.tmp 22) (.tmp 40) 108 rfl w.heap.size 107 i1 _ 2 24 Tryz.underlying108 hi1 hy0 hy1 hy2 rfl (by omega) (.slice ao2 k c2) k (flatW (L.take k)) rfl ownB ⟨B2, 0, none⟩ 1 1 [.int .i64 (A : Int), .string S] rfl rfl (fun j u hj => by rw [addz]; exact hcs j u hj) (by intro u hu; simp only [List.mem_cons, List.not_mem_nil, or_false] at hu; rcases hu with rfl | rfl <;> rfl) (by omega) (by unfold maxLen; omega) (by omega) hb3 _ rfl (fun gb cp w5 hown hgrow hat hlt5 => ?_)
            refine hK.out _ _ trivial (fun _ => ?_)
            clear hK
            refine wpSeq_take (d := 5) (v := ?_) rfl rfl (by kernel_rfl) (fun w hS => ?_) ?_
            rotate_left
            · go_simp <;> with_reducible rfl
            dsimp only [List.set_cons_zero, List.set_cons_succ]
            have hap := HI.out.2.2.2
            have hO5 := lines_keep hOB hgrow (fun x hx => (hap x hx).1) (fun x hx => (hap x hx).2)
            have hap5 := apart_more hOB hap (n := k + 1) (cap := cp) (Nat.le_refl _) hat
            have B5 := BB.grownBy hgrow (fun x hx => (ownB.lt x hx).1)
            rw [← HM.out.2.1] at hown
            refine wpSeq_done ?_
            refine NoPanic.normal ?_
            have HZ := Lib.hid (And.intro hO5 (And.intro hown (And.intro B5 hap5)))
            have HM2 := Lib.hid HM.out.2.2
            clear HI HM hO5 hown B5 hap5 hap ownB hOB BB hb3 hk16 hgrow hat hlt5 hB hcs e18 h0 kB
            go_wp2
            go_roundw
            case rel =>
              obtain ⟨u2, u3⟩ := HM2.out
              refine ⟨k + 1, some ⟨gb, 0, none⟩, cp, by omega, by go_num, rfl, ?_, ?_, HZ.out.2.2.1, ?_⟩
              · exact HZ.out.1
              · exact HZ.out.2.1
              · exact HZ.out.2.2.2
            case measure => have := HM2.out.1; simp [intOf]; omega
        · have hkB : decide ((k : Int) < (L.length : Int)) = false := decide_eq_false (by omega)
          obtain rfl : k = L.length := by omega
          rw [List.take_length] at hown
          have hIW := words_own hown rfl
          obtain ⟨gx, c3, hv, _, _, hgx, _⟩ := hIW.full hLne
          obtain ⟨rfl, _, rfl⟩ : ao2 = some ⟨gx, 0, none⟩ ∧ True ∧ c2 = c3 := by simpa using hv
          have hO3 := hO2.keep ((B.refl wv).alloc #[.slice (some ⟨gx, 0, none⟩) L.length c2] 108)
          have own2 := hO3.own
          have hIW2 := hIW.keep ((B.refl wv).alloc #[.slice (some ⟨gx, 0, none⟩) L.length c2] 108)
          have B2 := hB2.alloc #[.slice (some ⟨gx, 0, none⟩) L.length c2] 108
          have hne := (hap gx rfl).1
          have hgb := (hown.lt gx rfl).1
          have hb2 := B2.below.size
          rw [HO.out.2.1] at own2
          have hi16 : i ≤ 65536 := by omega
          have HS := Lib.hid (And.intro hO3 (And.intro hIW2 (And.intro hne (And.intro hgb (And.intro B2 hgx)))))
          clear hO2 hown hB2 hap hIW hIW2 hO3 B2 hne hgb hv hgx hu hu0 hO hB hwd hW hgl h hws hk hi
          go_wp2_with (at_builtin; refine wpList_append_lies _ rfl _ _ 48 rfl w.heap.size 108 i0 _ 1 24 Tryz.underlying48 hi0 hz0 hz1 hz2 rfl (by omega) (.slice ao1 i c1) i vs rfl own2 ⟨wv.heap.size, 0, none⟩ 1 1 [.slice (some ⟨gx, 0, none⟩) L.length c2] rfl rfl (newest rfl) (by intro u hu; rw [List.mem_singleton.1 hu]; rfl) (by omega) (by unfold maxLen; omega) (by omega) hb2 _ rfl ?_; intro gb cp W4 hown4 hgrow hat4 hlt4; rw [← HO.out.2.1] at hown4; have hO4 := lines_more HS.out.1 hown4 hgrow hat4 HS.out.2.1 rfl HS.out.2.2.1 (by have := HS.out.2.2.2.2.2; simp; omega) HS.out.2.2.2.1; have B4 := HS.out.2.2.2.2.1.grownBy hgrow (fun x hx => (own2.lt x hx).1); clear hgrow hat4 hlt4 own2 hown4; replace hO4 := Lib.hid hO4; go_wp2_with fail)
          go_roundw
          case rel =>
            obtain ⟨u1, u2, u3⟩ := HO.out
            refine ⟨i + 1, some ⟨gb, 0, none⟩, cp, vs ++ [.slice (some ⟨gx, 0, none⟩) L.length c2], by omega, by go_num, rfl, ?_, B4⟩
            have e := hO4.out
            rw [← u1] at e
            rw [show (LL.take (i + 1)).length = i + 1 by rw [u1, List.length_append, u2]; rfl] at e
            exact e
          case measure => have := HO.out.2.2; simp [intOf]; omega
    · have hlB : decide ((i : Int) < (LL.length : Int)) = false := decide_eq_false (by omega)
      obtain rfl : i = LL.length := by omega
      rw [List.take_length] at hO
      have HO := Lib.hid (And.intro hO hB)
      clear hO hB h hne hws
      go_wp2
      go_ret
      exact ⟨_, vs, rfl, HO.out.1, HO.out.2⟩
end Go.Proofs.YtflklpflpjdbmaaGreatDoor

namespace Go.Proofs.YtflklpflpjdbmaaGreatDoor
open Go.RowKit
theorem same9_any (v1 v2 : Value) (L : List (List Wd)) (w : World) (h1 : IsLnO w v1 L) (h2 : IsLnO w v2 L) (hL : L.length ≤ maxLen) (hW : ∀ ws ∈ L, ws.length ≤ maxLen) :
    Calls Tryz.prog 23 #[v1, v2] w fun e w' => e = .returned (.bool true) ∧ Dr w w' := by
  obtain ⟨ao1, c1, rfl⟩ := h1.form
  obtain ⟨ao2, c2, rfl⟩ := h2.form
  unfold maxLen at hL hW
  go_enter Tryz.func23, Tryz.ntmps23
  go_wp2
  go_loopw [5] (fun iv wr => ∃ i : Nat, i ≤ L.length ∧ iv = .int .i64 i ∧ Dr w wr) (fun iv _ => L.length + 1 - (intOf iv).toNat)
  case atStart => exact ⟨0, by omega, rfl, Dr.refl _⟩
  case round =>
    obtain ⟨i, hi, rfl, hD⟩ := hrel
    obtain ⟨wo, rfl⟩ : ∃ wo : World, wo = wr := ⟨_, rfl⟩
    by_cases hl : i < L.length
    · have hlB : decide ((i : Int) < (L.length : Int)) = true := decide_eq_true (by omega)
      have hlI : (i : Int) < (L.length : Int) := by omega
      have hi0 : (0 : Int) ≤ (i : Int) := by omega
      obtain ⟨g1, o1, d1, u1, e1, k1, w1⟩ := (h1.keep hD.q.b).at_ hl
      obtain ⟨g2, o2, d2, u2, e2, k2, w2⟩ := (h2.keep hD.q.b).at_ hl
      obtain ⟨rfl, _, rfl⟩ : ao1 = some ⟨g1, o1, none⟩ ∧ True ∧ c1 = d1 := by simpa using e1
      obtain ⟨rfl, _, rfl⟩ : ao2 = some ⟨g2, o2, none⟩ ∧ True ∧ c2 = d2 := by simpa using e2
      have hw := hW _ (List.getElem_mem hl)
      obtain ⟨ws, hws⟩ : ∃ ws, L[i] = ws := ⟨_, rfl⟩
      rw [hws] at w1 w2 hw
      obtain ⟨a1, p1, rfl⟩ := w1.form
      obtain ⟨a2, p2, rfl⟩ := w2.form
      clear e1 e2 hws hW
      have Hl := Lib.hid hl
      go_wp2_with fail
      go_quiet (fail)
      obtain ⟨wd, hwd⟩ : ∃ wd, wo.drewN nq = wd := ⟨_, rfl⟩
      have hD2 : Dr w wd := by rw [← hwd]; exact hD.trans ⟨nq, rfl⟩
      have hDo : Dr wo wd := ⟨nq, hwd.symm⟩
      rw [hwd]
      go_wp2
      go_loopw [6] (fun kv wq => ∃ k : Nat, k ≤ ws.length ∧ kv = .int .i64 k ∧ Dr wd wq) (fun kv _ => ws.length + 1 - (intOf kv).toNat)
      case atStart => exact ⟨0, by omega, rfl, Dr.refl _⟩
      case round =>
        obtain ⟨k, hk, rfl, hDk⟩ := hrel
        obtain ⟨wv, rfl⟩ : ∃ wv : World, wv = wr := ⟨_, rfl⟩
        have hDl := hDo.trans hDk
        have m1 := hDl.q.keep k1
        have m2 := hDl.q.keep k2
        by_cases hlk : k < ws.length
        · have hkB : decide ((k : Int) < (ws.length : Int)) = true := decide_eq_true (by omega)
          have hkI : (k : Int) < (ws.length : Int) := by omega
          have hk0 : (0 : Int) ≤ (k : Int) := by omega
          obtain ⟨x, hx⟩ : ∃ x, ws[k]? = some x := ⟨_, List.getElem?_eq_getElem hlk⟩
          obtain ⟨b1, q1, f1, _, _, _, z1⟩ := (w1.keep hDl.q.b).full (by omega)
          obtain ⟨b2, q2, f2, _, _, _, z2⟩ := (w2.keep hDl.q.b).full (by omega)
          obtain ⟨rfl, _, rfl⟩ : a1 = some ⟨b1, 0, none⟩ ∧ True ∧ p1 = q1 := by simpa using f1
          obtain ⟨rfl, _, rfl⟩ : a2 = some ⟨b2, 0, none⟩ ∧ True ∧ p2 = q2 := by simpa using f2
          obtain ⟨n1, n2⟩ := z1 k x hx
          obtain ⟨n3, n4⟩ := z2 k x hx
          obtain ⟨X, hX⟩ : ∃ X, x.1 = X := ⟨_, rfl⟩
          obtain ⟨S, hS⟩ : ∃ S, strB x.2 = S := ⟨_, rfl⟩
          rw [hX] at n1 n3
          rw [hS] at n2 n4
          have hne : ((X : Int) != (X : Int)) = false := by simp
          have wk1 : IntKind.i64.wrap ((k : Int) + 1) = (k : Int) + 1 := by rw [IntKind.wrap_i64]; omega
          have Hlk := Lib.hid hlk
          have HD := Lib.hid hDk
          clear z1 z2 f1 f2 hx hX hS hDl hDo hD2 hD w1 w2 h1 h2 k1 k2 hlk hDk hwd
          go_wp2_with fail
          go_quiet (fail)
          go_wp2
          go_roundw
          case rel => exact ⟨k + 1, by have := Hlk.out; omega, by go_num, HD.out.trans ⟨_, rfl⟩⟩
          case measure => have := Hlk.out; simp [intOf]; omega
        · have hkB : decide ((k : Int) < (ws.length : Int)) = false := decide_eq_false (by omega)
          have wk1 : IntKind.i64.wrap ((i : Int) + 1) = (i : Int) + 1 := by rw [IntKind.wrap_i64]; omega
          have HD := Lib.hid (hD2.trans hDk)
          clear hD hD2 hDk hDl hDo w1 w2 k1 k2 h1 h2 hwd
          go_wp2
          go_roundw
          case rel => exact ⟨i + 1, by have := Hl.out; omega, by go_num, HD.out⟩
          case measure => have := Hl.out; simp [intOf]; omega
    · have hlB : decide ((i : Int) < (L.length : Int)) = false := decide_eq_false (by omega)
      have HD := Lib.hid hD
      clear h1 h2 hD
      go_wp2
      go_ret
      exact ⟨rfl, HD.out⟩
end Go.Proofs.YtflklpflpjdbmaaGreatDoor

namespace Go.Proofs.YtflklpflpjdbmaaGreatDoor
open Go.RowKit
theorem secs_at {w : World} {v : Value} {l : List Sec} (h : IsSecs w v l) {i : Nat} {s : Sec} (hs : l[i]? = some s) : ∃ a, (∃ cap, v = .slice (some a) l.length cap) ∧ SecAt w (a.add (i * 6)) s := by
  rcases h with ⟨_, rfl⟩ | ⟨a, cap, h1, _, _, h4⟩
  · simp at hs
  · exact ⟨a, ⟨cap, h1⟩, (h4 i s hs).2⟩
theorem secs_len {w : World} {v : Value} {l : List Sec} (h : IsSecs w v l) : l.length ≤ 9223372036854775807 := by
  rcases h with ⟨_, rfl⟩ | ⟨a, cap, _, h2, h3, _⟩
  · simp
  · exact len_max h2 h3
theorem fls_at {w : World} {v : Value} {l : List Fl} (h : IsFls w v l) {i : Nat} {s : Fl} (hs : l[i]? = some s) : ∃ a, (∃ cap, v = .slice (some a) l.length cap) ∧ FlAt w (a.add (i * 4)) s := by
  rcases h with ⟨_, rfl⟩ | ⟨a, cap, h1, _, _, h4⟩
  · simp at hs
  · exact ⟨a, ⟨cap, h1⟩, h4 i s hs⟩
set_option maxHeartbeats 2000000 in
theorem sections_any (v1 v2 : Value) (l : List Sec) (w : World) (h1 : IsSecs w v1 l) (h2 : IsSecs w v2 l) : Calls Tryz.prog 57 #[v1, v2] w fun e w' => e = .returned (.bool true) ∧ Dr w w' := by
  obtain ⟨ao, ac, rfl⟩ := secs_form h1
  obtain ⟨bo, bc, rfl⟩ := secs_form h2
  have hlen := secs_len h1
  go_enter Tryz.func57, Tryz.ntmps57
  go_wp2
  go_loopw [5] (fun iv wr => ∃ i : Nat, i ≤ l.length ∧ iv = .int .i64 i ∧ Dr w wr) (fun iv _ => l.length + 1 - (intOf iv).toNat)
  case atStart => exact ⟨0, by omega, rfl, Dr.refl _⟩
  case round =>
    obtain ⟨i, hi, rfl, hD⟩ := hrel
    obtain ⟨wo, rfl⟩ : ∃ wo : World, wo = wr := ⟨_, rfl⟩
    by_cases hl : i < l.length
    · have hlB : decide ((i : Int) < (l.length : Int)) = true := decide_eq_true (by omega)
      have hlI : (i : Int) < (l.length : Int) := by omega
      have hi0 : (0 : Int) ≤ (i : Int) := by omega
      have wk1 : IntKind.i64.wrap ((i : Int) + 1) = (i : Int) + 1 := by rw [IntKind.wrap_i64]; omega
      obtain ⟨F, hF⟩ : ∃ F, l[i]? = some F := ⟨_, List.getElem?_eq_getElem hl⟩
      obtain ⟨a, e1, g1⟩ := secs_at (h1.keepB hD.q.b) hF
      obtain ⟨b, e2, g2⟩ := secs_at (h2.keepB hD.q.b) hF
      obtain ⟨rfl, _⟩ : ao = some a ∧ True := by simpa using e1
      obtain ⟨rfl, _⟩ : bo = some b ∧ True := by simpa using e2
      obtain ⟨a0, a1, a2, a3, a4, a5⟩ := g1
      obtain ⟨b0, b1, b2, b3, b4, b5⟩ := g2
      obtain ⟨x0, x1, x2, x3, x4, x5⟩ := F
      simp only at a0 a1 a2 a3 a4 a5 b0 b1 b2 b3 b4 b5
      have HL := Lib.hid hl
      replace hD := Lib.hid hD
      clear h1 h2 hF e1 e2
      go_wp2_with fail
      go_quiet (fail)
      go_wp2
      go_roundw
      case rel => exact ⟨i + 1, by have := HL.out; omega, by go_num, hD.out.trans ⟨_, rfl⟩⟩
      case measure => have := HL.out; simp [intOf]; omega
    · have hlB : decide ((i : Int) < (l.length : Int)) = false := decide_eq_false (by omega)
      replace hD := Lib.hid hD
      clear h1 h2
      go_wp2
      go_ret
      exact ⟨rfl, hD.out⟩
set_option maxHeartbeats 2000000 in
theorem fills_any (v1 v2 : Value) (l : List Fl) (w : World) (h1 : IsFls w v1 l) (h2 : IsFls w v2 l) : Calls Tryz.prog 56 #[v1, v2] w fun e w' => e = .returned (.bool true) ∧ Dr w w' := by
  obtain ⟨ao, ac, rfl⟩ := h1.form
  obtain ⟨bo, bc, rfl⟩ := h2.form
  have hlen := h1.len
  go_enter Tryz.func56, Tryz.ntmps56
  go_wp2
  go_loopw [5] (fun iv wr => ∃ i : Nat, i ≤ l.length ∧ iv = .int .i64 i ∧ Dr w wr) (fun iv _ => l.length + 1 - (intOf iv).toNat)
  case atStart => exact ⟨0, by omega, rfl, Dr.refl _⟩
  case round =>
    obtain ⟨i, hi, rfl, hD⟩ := hrel
    obtain ⟨wo, rfl⟩ : ∃ wo : World, wo = wr := ⟨_, rfl⟩
    by_cases hl : i < l.length
    · have hlB : decide ((i : Int) < (l.length : Int)) = true := decide_eq_true (by omega)
      have hlI : (i : Int) < (l.length : Int) := by omega
      have hi0 : (0 : Int) ≤ (i : Int) := by omega
      have wk1 : IntKind.i64.wrap ((i : Int) + 1) = (i : Int) + 1 := by rw [IntKind.wrap_i64]; omega
      obtain ⟨F, hF⟩ : ∃ F, l[i]? = some F := ⟨_, List.getElem?_eq_getElem hl⟩
      obtain ⟨a, e1, g1⟩ := fls_at (h1.keepB hD.q.b) hF
      obtain ⟨b, e2, g2⟩ := fls_at (h2.keepB hD.q.b) hF
      obtain ⟨rfl, _⟩ : ao = some a ∧ True := by simpa using e1
      obtain ⟨rfl, _⟩ : bo = some b ∧ True := by simpa using e2
      obtain ⟨a0, a1, a2, a3⟩ := g1
      obtain ⟨b0, b1, b2, b3⟩ := g2
      obtain ⟨x0, x1, x2, x3⟩ := F
      simp only at a0 a1 a2 a3 b0 b1 b2 b3
      have HL := Lib.hid hl
      replace hD := Lib.hid hD
      clear h1 h2 hF e1 e2
      go_wp2_with fail
      go_quiet (fail)
      go_wp2
      go_roundw
      case rel => exact ⟨i + 1, by have := HL.out; omega, by go_num, hD.out.trans ⟨_, rfl⟩⟩
      case measure => have := HL.out; simp [intOf]; omega
    · have hlB : decide ((i : Int) < (l.length : Int)) = false := decide_eq_false (by omega)
      replace hD := Lib.hid hD
      clear h1 h2
      go_wp2
      go_ret
      exact ⟨rfl, hD.out⟩
end Go.Proofs.YtflklpflpjdbmaaGreatDoor

namespace Go.Proofs.YtflklpflpjdbmaaGreatDoor
open Go.RowKit
theorem IsDk.forms {w : World} {wv tv fv : Value} {d : Dk} (h : IsDk w wv tv fv d) : ∃ ao ac bo bc co cc, wv = .slice ao d.ws.length ac ∧ tv = .slice bo d.ts.length bc ∧ fv = .slice co d.fs.length cc := by
  obtain ⟨ao, ac, h1⟩ := h.ws.form
  obtain ⟨bo, bc, h2⟩ := h.ts.form
  obtain ⟨co, cc, h3⟩ := h.fs.form
  exact ⟨ao, ac, bo, bc, co, cc, h1, h2, h3⟩
theorem named_yes {ws : List Wr} {s : ByteArray} {i : Nat} (hi : i < ws.length) (h : ((ws[i]).n.toList == s.toList) = true) : namedW ws s = true := List.any_eq_true.2 ⟨_, List.getElem_mem hi, h⟩
theorem named_no {ws : List Wr} {s : ByteArray} (h : ∀ i (hi : i < ws.length), ((ws[i]).n.toList == s.toList) = false) : namedW ws s = false := by
  refine List.any_eq_false.2 fun x hx => ?_
  obtain ⟨i, hi, rfl⟩ := List.getElem_of_mem hx
  rw [h i hi]
  decide
theorem r8wnamed_any (wv tv fv : Value) (d : Dk) (s : ByteArray) (w : World) (h : IsDk w wv tv fv d) : Calls Tryz.prog 41 #[.agg #[wv, tv, fv], .string s] w fun e w' => e = .returned (.bool (namedW d.ws s)) ∧ Q w w' := by
  obtain ⟨ao, ac, bo, bc, co, cc, rfl, rfl, rfl⟩ := h.forms
  have hQ := (Q.refl w).alloc #[.slice ao d.ws.length ac, .slice bo d.ts.length bc, .slice co d.fs.length cc] 26
  have hR := h.ws.keepB hQ.b
  have hlen := h.ws.len
  have k0 : (w.alloc (.cells #[.slice ao d.ws.length ac, .slice bo d.ts.length bc, .slice co d.fs.length cc] 26)).cell? ⟨w.heap.size, 0, none⟩ = some (.slice ao d.ws.length ac) := by rw [World.cell?_alloc_new]; rfl
  replace hQ := Lib.hid hQ
  clear h
  go_enter Tryz.func41, Tryz.ntmps41
  go_wp2
  generalize w.alloc (.cells #[.slice ao d.ws.length ac, .slice bo d.ts.length bc, .slice co d.fs.length cc] 26) = W at *
  generalize w.heap.size = H at *
  go_loopw [5] (fun iv wr => ∃ i : Nat, i ≤ d.ws.length ∧ iv = .int .i64 i ∧ (∀ j (hj : j < d.ws.length), j < i → ((d.ws[j]).n.toList == s.toList) = false) ∧ W = wr) (fun iv _ => d.ws.length + 1 - (intOf iv).toNat)
  case atStart => exact ⟨0, Nat.zero_le _, rfl, fun j _ hj => by omega, rfl⟩
  case round =>
    obtain ⟨i, hi, rfl, hall, rfl⟩ := hrel
    by_cases hl : i < d.ws.length
    · have hlB : decide ((i : Int) < (d.ws.length : Int)) = true := decide_eq_true (by omega)
      have hlI : (i : Int) < (d.ws.length : Int) := by omega
      have hi0 : (0 : Int) ≤ (i : Int) := by omega
      have wk1 : IntKind.i64.wrap ((i : Int) + 1) = (i : Int) + 1 := by rw [IntKind.wrap_i64]; omega
      obtain ⟨a, cap, e1, _, _, hr⟩ := hR.at_ hl
      obtain ⟨rfl, _, rfl⟩ : ao = some a ∧ True ∧ ac = cap := by simpa using e1
      have hn := hr.n
      cases hc : (d.ws[i]).n.toList == s.toList
      · have HA := Lib.hid (show ∀ j (hj : j < d.ws.length), j < i + 1 → ((d.ws[j]).n.toList == s.toList) = false from fun j hj hj2 => by
          by_cases c : j = i
          · subst c; exact hc
          · exact hall j hj (by omega))
        have HL := Lib.hid hl
        generalize d.ws[i].n = N at *
        clear hall hr hR e1 hl hi hlen
        go_wp2
        go_roundw
        case rel => exact ⟨i + 1, by have := HL.out; omega, by go_num, HA.out, trivial⟩
        case measure => have := HL.out; simp [intOf]; omega
      · have hy := Lib.hid (named_yes hl hc)
        generalize d.ws[i].n = N at *
        clear hall hr hR e1 hi hlen
        go_wp2
        go_ret
        exact ⟨by rw [hy.out]; rfl, hQ.out⟩
    · have hlB : decide ((i : Int) < (d.ws.length : Int)) = false := decide_eq_false (by omega)
      have hno := Lib.hid (named_no (ws := d.ws) (s := s) (fun j hj => hall j hj (by omega)))
      clear hall hR hi hlen
      go_wp2
      go_ret
      exact ⟨by rw [hno.out]; rfl, hQ.out⟩
theorem r8tnamed_any (wv tv fv : Value) (d : Dk) (s : ByteArray) (w : World) (h : IsDk w wv tv fv d) : Calls Tryz.prog 45 #[.agg #[wv, tv, fv], .string s] w fun e w' => e = .returned (.bool (namedW d.ts s)) ∧ Q w w' := by
  obtain ⟨ao, ac, bo, bc, co, cc, rfl, rfl, rfl⟩ := h.forms
  have hQ := (Q.refl w).alloc #[.slice ao d.ws.length ac, .slice bo d.ts.length bc, .slice co d.fs.length cc] 26
  have hR := h.ts.keepB hQ.b
  have hlen := h.ts.len
  have k0 : (w.alloc (.cells #[.slice ao d.ws.length ac, .slice bo d.ts.length bc, .slice co d.fs.length cc] 26)).cell? ⟨w.heap.size, 1, none⟩ = some (.slice bo d.ts.length bc) := by rw [World.cell?_alloc_new]; rfl
  replace hQ := Lib.hid hQ
  clear h
  go_enter Tryz.func45, Tryz.ntmps45
  go_wp2
  generalize w.alloc (.cells #[.slice ao d.ws.length ac, .slice bo d.ts.length bc, .slice co d.fs.length cc] 26) = W at *
  generalize w.heap.size = H at *
  go_loopw [5] (fun iv wr => ∃ i : Nat, i ≤ d.ts.length ∧ iv = .int .i64 i ∧ (∀ j (hj : j < d.ts.length), j < i → ((d.ts[j]).n.toList == s.toList) = false) ∧ W = wr) (fun iv _ => d.ts.length + 1 - (intOf iv).toNat)
  case atStart => exact ⟨0, Nat.zero_le _, rfl, fun j _ hj => by omega, rfl⟩
  case round =>
    obtain ⟨i, hi, rfl, hall, rfl⟩ := hrel
    by_cases hl : i < d.ts.length
    · have hlB : decide ((i : Int) < (d.ts.length : Int)) = true := decide_eq_true (by omega)
      have hlI : (i : Int) < (d.ts.length : Int) := by omega
      have hi0 : (0 : Int) ≤ (i : Int) := by omega
      have wk1 : IntKind.i64.wrap ((i : Int) + 1) = (i : Int) + 1 := by rw [IntKind.wrap_i64]; omega
      obtain ⟨a, cap, e1, _, _, hr⟩ := hR.at_ hl
      obtain ⟨rfl, _, rfl⟩ : bo = some a ∧ True ∧ bc = cap := by simpa using e1
      have hn := hr.n
      cases hc : (d.ts[i]).n.toList == s.toList
      · have HA := Lib.hid (show ∀ j (hj : j < d.ts.length), j < i + 1 → ((d.ts[j]).n.toList == s.toList) = false from fun j hj hj2 => by
          by_cases c : j = i
          · subst c; exact hc
          · exact hall j hj (by omega))
        have HL := Lib.hid hl
        generalize d.ts[i].n = N at *
        clear hall hr hR e1 hl hi hlen
        go_wp2
        go_roundw
        case rel => exact ⟨i + 1, by have := HL.out; omega, by go_num, HA.out, trivial⟩
        case measure => have := HL.out; simp [intOf]; omega
      · have hy := Lib.hid (named_yes hl hc)
        generalize d.ts[i].n = N at *
        clear hall hr hR e1 hi hlen
        go_wp2
        go_ret
        exact ⟨by rw [hy.out]; rfl, hQ.out⟩
    · have hlB : decide ((i : Int) < (d.ts.length : Int)) = false := decide_eq_false (by omega)
      have hno := Lib.hid (named_no (ws := d.ts) (s := s) (fun j hj => hall j hj (by omega)))
      clear hall hR hi hlen
      go_wp2
      go_ret
      exact ⟨by rw [hno.out]; rfl, hQ.out⟩
end Go.Proofs.YtflklpflpjdbmaaGreatDoor
