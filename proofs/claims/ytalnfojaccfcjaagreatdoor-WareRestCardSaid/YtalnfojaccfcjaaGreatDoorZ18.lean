/-
 Contracts and what they rest on.
-/
import Derived.Lib.ConvBytes
import Derived.Test.YtalnfojaccfcjaaGreatDoorChecked
import Derived.Lib.Hide
import Derived.KernelRfl
import Derived.Deep.QuietTactic
import Derived.BigQuiet
import Derived.DeepKeys4
import Derived.Maps.OwnSet
import Derived.Maps.OwnOps
import Derived.WalkSpells
import Derived.Test.YtalnfojaccfcjaaGreatDoorZ1
import Derived.Test.YtalnfojaccfcjaaGreatDoorZ2
import Derived.Test.YtalnfojaccfcjaaGreatDoorZ3
import Derived.Test.YtalnfojaccfcjaaGreatDoorZ4
import Derived.Test.YtalnfojaccfcjaaGreatDoorZ9
import Derived.Test.YtalnfojaccfcjaaGreatDoorZ16
import Derived.Test.YtalnfojaccfcjaaGreatDoorZ17
namespace Go.Proofs.YtalnfojaccfcjaaGreatDoor
open Go.RowKit
set_option linter.unusedVariables false
theorem lnInfoW : (Tryz.prog.info? 135).map (fun i => (i.zero, i.size, i.bytes)) = some (some (.slice none 0 0), 1, 24) := by kernel_rfl
theorem wdInfoW : (Tryz.prog.info? 134).map (fun i => (i.zero, i.size, i.bytes)) = some (some (.agg #[.int .i64 0, .string .empty]), 2, 24) := by kernel_rfl
set_option maxHeartbeats 4000000 in
set_option maxRecDepth 100000 in
theorem words9_any (v : Value) (LL : List (List Wd)) (w : World) (h : IsLnO w v LL) (hne : ∀ L ∈ LL, 0 < L.length) (hL : LL.length ≤ 65536) (hws : ∀ L ∈ LL, L.length ≤ 65536) :
  Calls Tryz.prog 18 #[v] w fun e w' => ∃ u vs, e = .returned u ∧ LinesO w' w.heap.size 135 u LL vs ∧ B w w' := by
 obtain ⟨ao, ac, rfl⟩ := h.form
 obtain ⟨i0, hi0, hz0, hz1, hz2⟩ := info_of lnInfoW
 obtain ⟨i1, hi1, hy0, hy1, hy2⟩ := info_of wdInfoW
 go_enter Tryz.func18, Tryz.ntmps18
 go_wp2
 go_loopw [3, 4] (fun ov iv wr => ∃ (i : Nat) (ao1 : Option Addr) (c1 : Nat) (vs : List Value), i ≤ LL.length ∧ iv = .int .i64 i ∧ ov = .slice ao1 i c1 ∧ LinesO wr w.heap.size 135 (.slice ao1 i c1) (LL.take i) vs ∧ B w wr) (fun _ iv _ => LL.length + 1 - (intOf iv).toNat)
 case atStart => exact ⟨0, none, 0, [], Nat.zero_le _, rfl, rfl, LinesO.nil _ _ _, B.refl _⟩
 case round =>
  obtain ⟨i, ao1, c1, vs, hi, rfl, rfl, hO, hB⟩ := hrel
  obtain ⟨wo, rfl⟩ : ∃ wo : World, wo = wr := ⟨_, rfl⟩
  by_cases hl : i < LL.length
  ·have hlB : decide ((i : Int) < (LL.length : Int)) = true := decide_eq_true (by omega)
   have hlI : (i : Int) < (LL.length : Int) := by omega
   have hi0' : (0 : Int) ≤ (i : Int) := by omega
   have wk1 : IntKind.i64.wrap ((i : Int) + 1) = (i : Int) + 1 := by rw [IntKind.wrap_i64]; omega
   obtain ⟨L, hF⟩ : ∃ L, LL[i]? = some L := ⟨_, List.getElem?_eq_getElem hl⟩
   have hFe : LL[i] = L := by rw [List.getElem?_eq_getElem hl] at hF; simpa using hF
   obtain ⟨g, o, cap, u, e1, hu, hW⟩ := h.at_ hl
   rw [hFe] at hW
   obtain ⟨rfl, _, rfl⟩ : ao = some ⟨g, o, none⟩ ∧ True ∧ ac = cap := by simpa using e1
   have hLne := hne L (List.mem_of_getElem? hF)
   have hL16 := hws L (List.mem_of_getElem? hF)
   obtain ⟨gl, cl, rfl, _, _, hgl, hwd⟩ := hW.full hLne
   have hu0 := hB.keep hu
   have ht1 : LL.take (i + 1) = LL.take i ++ [L] := by rw [List.take_add_one, hF]; rfl
   have htl : (LL.take i).length = i := by rw [List.length_take]; omega
   have HO := Lib.hid (And.intro ht1 (And.intro htl hl))
   clear ht1 e1 hF hFe hl
   go_wp2
   go_loopw [5, 6] (fun lv kv wr => ∃ (k : Nat) (ao2 : Option Addr) (c2 : Nat), k ≤ L.length ∧ kv = .int .i64 k ∧ lv = .slice ao2 k c2 ∧ LinesO wr w.heap.size 135 (.slice ao1 i c1) (LL.take i) vs ∧ wr.ownsRow w.heap.size 134 2 (.slice ao2 k c2) k (flatW (L.take k)) ∧ B w wr ∧ Apart (.slice ao2 k c2) (.slice ao1 i c1) vs) (fun _ kv _ => L.length + 1 - (intOf kv).toNat)
   case atStart => exact ⟨0, none, 0, Nat.zero_le _, rfl, rfl, hO, World.ownsRow_nil _ _ _ _, hB, apart_nil _ _⟩
   case round =>
    obtain ⟨k, ao2, c2, hk, rfl, rfl, hO2, hown, hB2, hap⟩ := hrel
    obtain ⟨wv, rfl⟩ : ∃ wv : World, wv = wr := ⟨_, rfl⟩
    have hu2 := hB2.keep hu
    by_cases hlk : k < L.length
    ·have hkB : decide ((k : Int) < (L.length : Int)) = true := decide_eq_true (by omega)
     have hkI : (k : Int) < (L.length : Int) := by omega
     have hk0 : (0 : Int) ≤ (k : Int) := by omega
     have wk2 : IntKind.i64.wrap ((k : Int) + 1) = (k : Int) + 1 := by rw [IntKind.wrap_i64]; omega
     obtain ⟨x, hx⟩ : ∃ x, L[k]? = some x := ⟨_, List.getElem?_eq_getElem hlk⟩
     obtain ⟨n1, n2⟩ := hwd k x hx
     have hfl : flatW (L.take (k + 1)) = flatW (L.take k) ++ [.int .i64 ((x.1 : Nat) : Int), .string (strB x.2)] := by rw [List.take_add_one, hx]; exact flatW_snoc _ x
     have htk0 : k ≤ 65536 := by omega
     obtain ⟨A, hA⟩ : ∃ A, x.1 = A := ⟨_, rfl⟩
     obtain ⟨S, hS⟩ : ∃ S, strB x.2 = S := ⟨_, rfl⟩
     rw [hA, hS] at hfl
     rw [hA] at n1
     rw [hS] at n2
     have kB : ∀ w', B wv w' → w'.cell? ⟨g, o + i, none⟩ = some (.slice (some ⟨gl, 0, none⟩) L.length cl) ∧ w'.cell? ⟨gl, k * 2, none⟩ = some (.int .i64 (A : Int)) ∧ w'.cell? ⟨gl, k * 2 + 1, none⟩ = some (.string S) :=
      fun w' q => ⟨q.keep hu2, (hB2.trans q).keep n1, (hB2.trans q).keep n2⟩
     have HI := Lib.hid (And.intro hO2 (And.intro hown (And.intro hB2 hap)))
     have HM := Lib.hid (And.intro htk0 (And.intro hfl (And.intro hlk hL16)))
     clear hO2 hown hB2 hap htk0 hfl hlk hx hA hS n1 n2 hu hu0 hO hB hwd hW hgl h hne hws hi hk
     go_wp2_with fail
     refine wp_region_noPanic ?_
     refine wp_region_slots [(0, 22), (1, 23), (2, 24), (3, 25), (4, 26), (5, 27), (6, 28), (7, 29), (8, 30), (9, 31), (10, 32), (11, 33), (12, 34), (13, 35), (14, 36), (15, 37), (16, 38), (17, 39), (18, 40)] [(19, 2), (20, 0)] [0, 0, 0, 6, 8, 0, 48, 64, 128, 0, 0, 1536, 2048, 0, 12288, 16384, 32768, 65792, 131072, 262145, 1048575] [0, 0, 0, 6, 8, 0, 48, 64, 128, 0, 0, 1536, 2048, 0, 12288, 16384, 32768, 65792, 131072, 262145, 524289] [0, 0, 0, 6, 14, 0, 62, 126, 254, 0, 0, 1536, 3584, 0, 15872, 32256, 65024, 131070, 262142, 524287, 1048575] 524287 [(fun v _ => v = .slice ao2 k c2), (fun v _ => v = .slice (some ⟨g, o, none⟩) LL.length ac), (fun v _ => v = .int .i64 (i : Int)), (fun v _ => v = .pointer (some ⟨g, o + i, none⟩)), (fun v _ => v = .slice (some ⟨gl, 0, none⟩) L.length cl), (fun v _ => v = .int .i64 (k : Int)), (fun v _ => v = .pointer (some ⟨gl, k * 2, none⟩)), (fun v _ => v = .pointer (some ⟨gl, k * 2, none⟩)), (fun v _ => v = .int .i64 (A : Int)), (fun v _ => v = .slice (some ⟨g, o, none⟩) LL.length ac), (fun v _ => v = .int .i64 (i : Int)), (fun v _ => v = .pointer (some ⟨g, o + i, none⟩)), (fun v _ => v = .slice (some ⟨gl, 0, none⟩) L.length cl), (fun v _ => v = .int .i64 (k : Int)), (fun v _ => v = .pointer (some ⟨gl, k * 2, none⟩)), (fun v _ => v = .pointer (some ⟨gl, k * 2 + 1, none⟩)), (fun v _ => v = .string S), (fun v _ => v = .agg #[.int .i64 (A : Int), .string S]), (Lits 1 [.int .i64 (A : Int), .string S])] (by kernel_rfl) (by kernel_rfl) (fun _ _ _ _ h => h) ⟨slot_val _, slot_val _, slot_val _, slot_val _, slot_val _, slot_val _, slot_val _, slot_val _, slot_val _, slot_val _, slot_val _, slot_val _, slot_val _, slot_val _, slot_val _, slot_val _, slot_val _, slot_val _, slot_lits _ _, trivial⟩ ⟨?_, ?_, ?_, ?_, ?_, ?_, ?_, ?_, ?_, ?_, ?_, ?_, ?_, ?_, ?_, ?_, ?_, ?_, ?_, trivial⟩ ?_
     ·intro f w' hf hB
      clear hf
      refine slot_op rfl (fun _ => rfl) (fun T hT K hK => ?_)
      simp only [putsL, List.set_cons_zero, List.set_cons_succ] at hT
      subst hT
      go_simp
      exact hK.out _ _ rfl (B.refl _)
     ·intro f w' hf hB
      clear hf
      refine slot_op rfl (fun _ => rfl) (fun T hT K hK => ?_)
      simp only [putsL, List.set_cons_zero, List.set_cons_succ] at hT
      subst hT
      go_simp
      exact hK.out _ _ rfl (B.refl _)
     ·intro f w' hf hB
      clear hf
      refine slot_op rfl (fun _ => rfl) (fun T hT K hK => ?_)
      simp only [putsL, List.set_cons_zero, List.set_cons_succ] at hT
      subst hT
      go_simp
      exact hK.out _ _ rfl (B.refl _)
     ·intro f w' hf hB
      have h1 := hf (1, 23) (by simp) (by rfl)
      have h2 := hf (2, 24) (by simp) (by rfl)
      clear hf
      have e1 : f 1 = .slice (some ⟨g, o, none⟩) LL.length ac := h1
      have e2 : f 2 = .int .i64 (i : Int) := h2
      refine slot_op rfl (fun _ => rfl) (fun T hT K hK => ?_)
      simp only [putsL, List.set_cons_zero, List.set_cons_succ, e1, e2] at hT
      subst hT
      go_simp
      exact hK.out _ _ rfl (B.refl _)
     ·intro f w' hf hB
      have h3 := hf (3, 25) (by simp) (by rfl)
      clear hf
      have e3 : f 3 = .pointer (some ⟨g, o + i, none⟩) := h3
      obtain ⟨k0, k1, k2⟩ := kB _ hB
      refine slot_op rfl (fun _ => rfl) (fun T hT K hK => ?_)
      simp only [putsL, List.set_cons_zero, List.set_cons_succ, e3] at hT
      subst hT
      go_simp
      exact hK.out _ _ rfl (B.refl _)
     ·intro f w' hf hB
      clear hf
      refine slot_op rfl (fun _ => rfl) (fun T hT K hK => ?_)
      simp only [putsL, List.set_cons_zero, List.set_cons_succ] at hT
      subst hT
      go_simp
      exact hK.out _ _ rfl (B.refl _)
     ·intro f w' hf hB
      have h4 := hf (4, 26) (by simp) (by rfl)
      have h5 := hf (5, 27) (by simp) (by rfl)
      clear hf
      have e4 : f 4 = .slice (some ⟨gl, 0, none⟩) L.length cl := h4
      have e5 : f 5 = .int .i64 (k : Int) := h5
      refine slot_op rfl (fun _ => rfl) (fun T hT K hK => ?_)
      simp only [putsL, List.set_cons_zero, List.set_cons_succ, e4, e5] at hT
      subst hT
      go_simp
      exact hK.out _ _ rfl (B.refl _)
     ·intro f w' hf hB
      have h6 := hf (6, 28) (by simp) (by rfl)
      clear hf
      have e6 : f 6 = .pointer (some ⟨gl, k * 2, none⟩) := h6
      refine slot_op rfl (fun _ => rfl) (fun T hT K hK => ?_)
      simp only [putsL, List.set_cons_zero, List.set_cons_succ, e6] at hT
      subst hT
      go_simp
      exact hK.out _ _ rfl (B.refl _)
     ·intro f w' hf hB
      have h7 := hf (7, 29) (by simp) (by rfl)
      clear hf
      have e7 : f 7 = .pointer (some ⟨gl, k * 2, none⟩) := h7
      obtain ⟨k0, k1, k2⟩ := kB _ hB
      refine slot_op rfl (fun _ => rfl) (fun T hT K hK => ?_)
      simp only [putsL, List.set_cons_zero, List.set_cons_succ, e7] at hT
      subst hT
      go_simp
      exact hK.out _ _ rfl (B.refl _)
     ·intro f w' hf hB
      clear hf
      refine slot_op rfl (fun _ => rfl) (fun T hT K hK => ?_)
      simp only [putsL, List.set_cons_zero, List.set_cons_succ] at hT
      subst hT
      go_simp
      exact hK.out _ _ rfl (B.refl _)
     ·intro f w' hf hB
      clear hf
      refine slot_op rfl (fun _ => rfl) (fun T hT K hK => ?_)
      simp only [putsL, List.set_cons_zero, List.set_cons_succ] at hT
      subst hT
      go_simp
      exact hK.out _ _ rfl (B.refl _)
     ·intro f w' hf hB
      have h9 := hf (9, 31) (by simp) (by rfl)
      have h10 := hf (10, 32) (by simp) (by rfl)
      clear hf
      have e9 : f 9 = .slice (some ⟨g, o, none⟩) LL.length ac := h9
      have e10 : f 10 = .int .i64 (i : Int) := h10
      refine slot_op rfl (fun _ => rfl) (fun T hT K hK => ?_)
      simp only [putsL, List.set_cons_zero, List.set_cons_succ, e9, e10] at hT
      subst hT
      go_simp
      exact hK.out _ _ rfl (B.refl _)
     ·intro f w' hf hB
      have h11 := hf (11, 33) (by simp) (by rfl)
      clear hf
      have e11 : f 11 = .pointer (some ⟨g, o + i, none⟩) := h11
      obtain ⟨k0, k1, k2⟩ := kB _ hB
      refine slot_op rfl (fun _ => rfl) (fun T hT K hK => ?_)
      simp only [putsL, List.set_cons_zero, List.set_cons_succ, e11] at hT
      subst hT
      go_simp
      exact hK.out _ _ rfl (B.refl _)
     ·intro f w' hf hB
      clear hf
      refine slot_op rfl (fun _ => rfl) (fun T hT K hK => ?_)
      simp only [putsL, List.set_cons_zero, List.set_cons_succ] at hT
      subst hT
      go_simp
      exact hK.out _ _ rfl (B.refl _)
     ·intro f w' hf hB
      have h12 := hf (12, 34) (by simp) (by rfl)
      have h13 := hf (13, 35) (by simp) (by rfl)
      clear hf
      have e12 : f 12 = .slice (some ⟨gl, 0, none⟩) L.length cl := h12
      have e13 : f 13 = .int .i64 (k : Int) := h13
      refine slot_op rfl (fun _ => rfl) (fun T hT K hK => ?_)
      simp only [putsL, List.set_cons_zero, List.set_cons_succ, e12, e13] at hT
      subst hT
      go_simp
      exact hK.out _ _ rfl (B.refl _)
     ·intro f w' hf hB
      have h14 := hf (14, 36) (by simp) (by rfl)
      clear hf
      have e14 : f 14 = .pointer (some ⟨gl, k * 2, none⟩) := h14
      refine slot_op rfl (fun _ => rfl) (fun T hT K hK => ?_)
      simp only [putsL, List.set_cons_zero, List.set_cons_succ, e14] at hT
      subst hT
      go_simp
      exact hK.out _ _ rfl (B.refl _)
     ·intro f w' hf hB
      have h15 := hf (15, 37) (by simp) (by rfl)
      clear hf
      have e15 : f 15 = .pointer (some ⟨gl, k * 2 + 1, none⟩) := h15
      obtain ⟨k0, k1, k2⟩ := kB _ hB
      refine slot_op rfl (fun _ => rfl) (fun T hT K hK => ?_)
      simp only [putsL, List.set_cons_zero, List.set_cons_succ, e15] at hT
      subst hT
      go_simp
      exact hK.out _ _ rfl (B.refl _)
     ·intro f w' hf hB
      have h8 := hf (8, 30) (by simp) (by rfl)
      have h16 := hf (16, 38) (by simp) (by rfl)
      clear hf
      have e8 : f 8 = .int .i64 (A : Int) := h8
      have e16 : f 16 = .string S := h16
      refine slot_op rfl (fun _ => rfl) (fun T hT K hK => ?_)
      simp only [putsL, List.set_cons_zero, List.set_cons_succ, e8, e16] at hT
      subst hT
      go_simp
      exact hK.out _ _ rfl (B.refl _)
     ·intro f w' hf hB
      have h17 := hf (17, 39) (by simp) (by rfl)
      clear hf
      have e17 : f 17 = .agg #[.int .i64 (A : Int), .string S] := h17
      refine slot_op rfl (fun _ => rfl) (fun T hT K hK => ?_)
      simp only [putsL, List.set_cons_zero, List.set_cons_succ, e17] at hT
      subst hT
      go_simp
      refine hK.out _ _ ⟨_, rfl, fun j u hj => ?_⟩ ((B.refl _).alloc _ _)
      rw [World.cell?_alloc_new]
      simpa using hj
     ·intro f w' hf hB T hT
      have h0 : f 0 = _ := hf (0, 22) (by simp)
      have h18 := hf (18, 40) (by simp)
      obtain ⟨B2, e18, hcs⟩ := h18
      clear hf
      simp only [putsL, List.set_cons_zero, List.set_cons_succ, h0, e18] at hT
      subst hT
      have ownB := row_keep HI.out.2.1 hB
      have hOB := HI.out.1.keep hB
      have BB := HI.out.2.2.1.trans hB
      have hb3 : w.heap.size ≤ w'.heap.size := BB.below.size
      have hk16 := HM.out.1
      refine wpSeq_call rfl (by kernel_rfl) (fun K hK => ?_)
      refine wp_append_lies _ (.tmp 22) (.tmp 40) 135 rfl w.heap.size 134 i1 _ 2 24 Tryz.underlying135 hi1 hy0 hy1 hy2 rfl (by omega) (.slice ao2 k c2) k (flatW (L.take k)) rfl ownB ⟨B2, 0, none⟩ 1 1 [.int .i64 (A : Int), .string S] rfl rfl (fun j u hj => by rw [addz]; exact hcs j u hj) (by intro u hu; simp only [List.mem_cons, List.not_mem_nil, or_false] at hu; rcases hu with rfl | rfl <;> rfl) (by omega) (by unfold maxLen; omega) (by omega) hb3 _ rfl (fun gb cp w5 hown hgrow hat hlt5 => ?_)
      refine hK.out _ _ trivial (fun _ => ?_)
      clear hK
      refine wpSeq_take (d := 5) rfl rfl (by kernel_rfl) (fun w hS => by go_simp <;> with_reducible rfl) ?_
      dsimp only [sZ, sS]
      have hap := HI.out.2.2.2
      have hO5 := lines_keep hOB hgrow (fun x hx => (hap x hx).1) (fun x hx => (hap x hx).2)
      have hap5 := apart_more hOB hap (n := k + 1) (cap := cp) (Nat.le_refl _) hat
      have B5 := BB.grownBy hgrow (fun x hx => (ownB.lt x hx).1)
      rw [← HM.out.2.1] at hown
      refine wpSeq_done ?_
      refine NoPanic.normal ?_
      have HZ := Lib.hid (And.intro hO5 (And.intro hown (And.intro B5 hap5)))
      have HM2 := Lib.hid HM.out.2.2
      clear HI HM hO5 hown B5 hap5 hap ownB hOB BB hb3 hk16 hgrow hat hlt5 hB hcs e18 h0 kB
      go_wp2
      go_roundw
      case rel =>
       obtain ⟨u2, u3⟩ := HM2.out
       refine ⟨k + 1, some ⟨gb, 0, none⟩, cp, by omega, by go_num, rfl, ?_, ?_, HZ.out.2.2.1, ?_⟩
       ·exact HZ.out.1
       ·exact HZ.out.2.1
       ·exact HZ.out.2.2.2
      case measure => have := HM2.out.1; simp [intOf]; omega
    ·have hkB : decide ((k : Int) < (L.length : Int)) = false := decide_eq_false (by omega)
     obtain rfl : k = L.length := by omega
     rw [List.take_length] at hown
     have hIW := words_own hown rfl
     obtain ⟨gx, c3, hv, _, _, hgx, _⟩ := hIW.full hLne
     obtain ⟨rfl, _, rfl⟩ : ao2 = some ⟨gx, 0, none⟩ ∧ True ∧ c2 = c3 := by simpa using hv
     have hO3 := hO2.keep ((B.refl wv).alloc #[.slice (some ⟨gx, 0, none⟩) L.length c2] 135)
     have own2 := hO3.own
     have hIW2 := hIW.keep ((B.refl wv).alloc #[.slice (some ⟨gx, 0, none⟩) L.length c2] 135)
     have B2 := hB2.alloc #[.slice (some ⟨gx, 0, none⟩) L.length c2] 135
     have hne := (hap gx rfl).1
     have hgb := (hown.lt gx rfl).1
     have hb2 := B2.below.size
     rw [HO.out.2.1] at own2
     have hi16 : i ≤ 65536 := by omega
     have HS := Lib.hid (And.intro hO3 (And.intro hIW2 (And.intro hne (And.intro hgb (And.intro B2 hgx)))))
     clear hO2 hown hB2 hap hIW hIW2 hO3 B2 hne hgb hv hgx hu hu0 hO hB hwd hW hgl h hws hk hi
     go_wp2_with (at_builtin; refine wpList_append_lies _ rfl _ _ 48 rfl w.heap.size 135 i0 _ 1 24 Tryz.underlying48 hi0 hz0 hz1 hz2 rfl (by omega) (.slice ao1 i c1) i vs rfl own2 ⟨wv.heap.size, 0, none⟩ 1 1 [.slice (some ⟨gx, 0, none⟩) L.length c2] rfl rfl (newest rfl) (by intro u hu; rw [List.mem_singleton.1 hu]; rfl) (by omega) (by unfold maxLen; omega) (by omega) hb2 _ rfl ?_; intro gb cp W4 hown4 hgrow hat4 hlt4; rw [← HO.out.2.1] at hown4; have hO4 := lines_more HS.out.1 hown4 hgrow hat4 HS.out.2.1 rfl HS.out.2.2.1 (by have := HS.out.2.2.2.2.2; simp; omega) HS.out.2.2.2.1; have B4 := HS.out.2.2.2.2.1.grownBy hgrow (fun x hx => (own2.lt x hx).1); clear hgrow hat4 hlt4 own2 hown4; replace hO4 := Lib.hid hO4; go_wp2_with fail)
     go_roundw
     case rel =>
      obtain ⟨u1, u2, u3⟩ := HO.out
      refine ⟨i + 1, some ⟨gb, 0, none⟩, cp, vs ++ [.slice (some ⟨gx, 0, none⟩) L.length c2], by omega, by go_num, rfl, ?_, B4⟩
      have e := hO4.out
      rw [← u1] at e
      rw [show (LL.take (i + 1)).length = i + 1 by rw [u1, List.length_append, u2]; rfl] at e
      exact e
     case measure => have := HO.out.2.2; simp [intOf]; omega
  ·have hlB : decide ((i : Int) < (LL.length : Int)) = false := decide_eq_false (by omega)
   obtain rfl : i = LL.length := by omega
   rw [List.take_length] at hO
   have HO := Lib.hid (And.intro hO hB)
   clear hO hB h hne hws
   go_wp2
   go_ret
   exact ⟨_, vs, rfl, HO.out.1, HO.out.2⟩
end Go.Proofs.YtalnfojaccfcjaaGreatDoor
namespace Go.Proofs.YtalnfojaccfcjaaGreatDoor
open Go.RowKit
theorem same9_any (v1 v2 : Value) (L : List (List Wd)) (w : World) (h1 : IsLnO w v1 L) (h2 : IsLnO w v2 L) (hL : L.length ≤ maxLen) (hW : ∀ ws ∈ L, ws.length ≤ maxLen) :
  Calls Tryz.prog 22 #[v1, v2] w fun e w' => e = .returned (.bool true) ∧ Dr w w' := by
 obtain ⟨ao1, c1, rfl⟩ := h1.form
 obtain ⟨ao2, c2, rfl⟩ := h2.form
 unfold maxLen at hL hW
 go_enter Tryz.func22, Tryz.ntmps22
 go_wp2
 go_loopw [5] (fun iv wr => ∃ i : Nat, i ≤ L.length ∧ iv = .int .i64 i ∧ Dr w wr) (fun iv _ => L.length + 1 - (intOf iv).toNat)
 case atStart => exact ⟨0, by omega, rfl, Dr.refl _⟩
 case round =>
  obtain ⟨i, hi, rfl, hD⟩ := hrel
  obtain ⟨wo, rfl⟩ : ∃ wo : World, wo = wr := ⟨_, rfl⟩
  by_cases hl : i < L.length
  ·have hlB : decide ((i : Int) < (L.length : Int)) = true := decide_eq_true (by omega)
   have hlI : (i : Int) < (L.length : Int) := by omega
   have hi0 : (0 : Int) ≤ (i : Int) := by omega
   obtain ⟨g1, o1, d1, u1, e1, k1, w1⟩ := (h1.keep hD.q.b).at_ hl
   obtain ⟨g2, o2, d2, u2, e2, k2, w2⟩ := (h2.keep hD.q.b).at_ hl
   obtain ⟨rfl, _, rfl⟩ : ao1 = some ⟨g1, o1, none⟩ ∧ True ∧ c1 = d1 := by simpa using e1
   obtain ⟨rfl, _, rfl⟩ : ao2 = some ⟨g2, o2, none⟩ ∧ True ∧ c2 = d2 := by simpa using e2
   have hw := hW _ (List.getElem_mem hl)
   obtain ⟨ws, hws⟩ : ∃ ws, L[i] = ws := ⟨_, rfl⟩
   rw [hws] at w1 w2 hw
   obtain ⟨a1, p1, rfl⟩ := w1.form
   obtain ⟨a2, p2, rfl⟩ := w2.form
   clear e1 e2 hws hW
   have Hl := Lib.hid hl
   go_wp2_with fail
   go_quiet (fail)
   obtain ⟨wd, hwd⟩ : ∃ wd, wo.drewN nq = wd := ⟨_, rfl⟩
   have hD2 : Dr w wd := by rw [← hwd]; exact hD.trans ⟨nq, rfl⟩
   have hDo : Dr wo wd := ⟨nq, hwd.symm⟩
   rw [hwd]
   go_wp2
   go_loopw [6] (fun kv wq => ∃ k : Nat, k ≤ ws.length ∧ kv = .int .i64 k ∧ Dr wd wq) (fun kv _ => ws.length + 1 - (intOf kv).toNat)
   case atStart => exact ⟨0, by omega, rfl, Dr.refl _⟩
   case round =>
    obtain ⟨k, hk, rfl, hDk⟩ := hrel
    obtain ⟨wv, rfl⟩ : ∃ wv : World, wv = wr := ⟨_, rfl⟩
    have hDl := hDo.trans hDk
    have m1 := hDl.q.keep k1
    have m2 := hDl.q.keep k2
    by_cases hlk : k < ws.length
    ·have hkB : decide ((k : Int) < (ws.length : Int)) = true := decide_eq_true (by omega)
     have hkI : (k : Int) < (ws.length : Int) := by omega
     have hk0 : (0 : Int) ≤ (k : Int) := by omega
     obtain ⟨x, hx⟩ : ∃ x, ws[k]? = some x := ⟨_, List.getElem?_eq_getElem hlk⟩
     obtain ⟨b1, q1, f1, _, _, _, z1⟩ := (w1.keep hDl.q.b).full (by omega)
     obtain ⟨b2, q2, f2, _, _, _, z2⟩ := (w2.keep hDl.q.b).full (by omega)
     obtain ⟨rfl, _, rfl⟩ : a1 = some ⟨b1, 0, none⟩ ∧ True ∧ p1 = q1 := by simpa using f1
     obtain ⟨rfl, _, rfl⟩ : a2 = some ⟨b2, 0, none⟩ ∧ True ∧ p2 = q2 := by simpa using f2
     obtain ⟨n1, n2⟩ := z1 k x hx
     obtain ⟨n3, n4⟩ := z2 k x hx
     obtain ⟨X, hX⟩ : ∃ X, x.1 = X := ⟨_, rfl⟩
     obtain ⟨S, hS⟩ : ∃ S, strB x.2 = S := ⟨_, rfl⟩
     rw [hX] at n1 n3
     rw [hS] at n2 n4
     have hne : ((X : Int) != (X : Int)) = false := by simp
     have wk1 : IntKind.i64.wrap ((k : Int) + 1) = (k : Int) + 1 := by rw [IntKind.wrap_i64]; omega
     have Hlk := Lib.hid hlk
     have HD := Lib.hid hDk
     clear z1 z2 f1 f2 hx hX hS hDl hDo hD2 hD w1 w2 h1 h2 k1 k2 hlk hDk hwd
     go_wp2_with fail
     go_quiet (fail)
     go_wp2
     go_roundw
     case rel => exact ⟨k + 1, by have := Hlk.out; omega, by go_num, HD.out.trans ⟨_, rfl⟩⟩
     case measure => have := Hlk.out; simp [intOf]; omega
    ·have hkB : decide ((k : Int) < (ws.length : Int)) = false := decide_eq_false (by omega)
     have wk1 : IntKind.i64.wrap ((i : Int) + 1) = (i : Int) + 1 := by rw [IntKind.wrap_i64]; omega
     have HD := Lib.hid (hD2.trans hDk)
     clear hD hD2 hDk hDl hDo w1 w2 k1 k2 h1 h2 hwd
     go_wp2
     go_roundw
     case rel => exact ⟨i + 1, by have := Hl.out; omega, by go_num, HD.out⟩
     case measure => have := Hl.out; simp [intOf]; omega
  ·have hlB : decide ((i : Int) < (L.length : Int)) = false := decide_eq_false (by omega)
   have HD := Lib.hid hD
   clear h1 h2 hD
   go_wp2
   go_ret
   exact ⟨rfl, HD.out⟩
end Go.Proofs.YtalnfojaccfcjaaGreatDoor
namespace Go.Proofs.YtalnfojaccfcjaaGreatDoor
open Go.RowKit
theorem B.bytes {a w : World} (h : B a w) (e : TypeId) (s : ByteArray) : B a (Lib.bytesWorld w e s) :=
 ⟨⟨h.below.os, h.below.tape, h.below.output, by rw [Lib.bytesWorld_size]; have := h.below.size; omega, fun k hk => by
  rw [Lib.bytesWorld_at_old w e s k (Nat.lt_of_lt_of_le hk h.below.size)]
  exact h.below.block k hk⟩⟩
def NumRes (s : ByteArray) (w : World) (e : Ending) (w' : World) : Prop := e = .returned (.tuple #[.int .i64 ((numV s : Nat) : Int), .bool (numOk s)]) ∧ B w w'
theorem numRes_no {s : ByteArray} {w w' : World} (h : numOk s = false ∧ numV s = 0) (q : B w w') : NumRes s w (.returned (.tuple #[.int .i64 0, .bool false])) w' := ⟨by rw [h.1, h.2]; rfl, q⟩
theorem kind_dig {n : Nat} : digN n = true ↔ kindN n = 3 := by
 constructor
 ·intro h
  have := digN_iff.1 h
  unfold kindN lowN capN
  simp only [Bool.and_eq_true, decide_eq_true_eq]
  rw [if_neg (by omega), if_neg (by omega), if_pos h]
 ·intro h
  unfold kindN at h
  split at h; · omega
  split at h; · omega
  split at h
  ·assumption
  repeat' (split at h)
  all_goals omega
theorem pick_dig {m d : Nat} (h : m = 48 + d) (hd : d ≤ 9) : IntKind.u8.wrap ((m : Int) - 48) = (d : Int) := by
 simp [IntKind.wrap, IntKind.signed, IntKind.bits]; omega
set_option maxHeartbeats 1000000 in
theorem number_any (s : ByteArray) (w : World) : Calls Tryz.prog 152 #[.string s] w (NumRes s w) := by
 have hE := toList_empty s
 have hZ := toList_zero s
 by_cases h1 : s.size < 1
 ·rw [decide_eq_true h1] at hE
  have HR := Lib.hid (numRes_no (w := w) (w' := w) (num_no (s := s) (fun h => by omega)) (B.refl w))
  clear h1 hZ
  go_enter Tryz.func152, Tryz.ntmps152
  go_wp2
  go_ret2
  exact HR.out
 rw [decide_eq_false h1] at hE
 have hg0 : ∀ h : 0 < s.size, (s[0]'h).toNat = byteAt s 0 := fun h => byteAt_get s 0 h
 have hz : (0 : Int) < (s.size : Int) := by omega
 have hz' : 0 < s.size := by omega
 by_cases h2 : s.size ≠ 1 ∧ byteAt s 0 = 48
 ·have HR := Lib.hid (numRes_no (w := w) (w' := w) (num_first h2.1 h2.2) (B.refl w))
  rw [decide_eq_false h2.1, Bool.false_and] at hZ
  obtain ⟨_, h3⟩ := h2
  rw [h3] at hg0
  clear h1 h3
  go_enter Tryz.func152, Tryz.ntmps152
  go_wp2
  go_ret2
  exact HR.out
 have hconv := fun w => Lib.run_convert_string_bytes (P := Tryz.prog) w 9 47 5 s Tryz.underlying9 Tryz.underlying47 Tryz.underlying5
 have hcell : ∀ j, j < s.size → (Lib.bytesWorld w 5 s).cell? ⟨w.heap.size, j, none⟩ = some (.int .u8 ((byteAt s j : Nat) : Int)) := fun j hj => Lib.bytesWorld_cell w _ s j hj
 have HB := Lib.hid ((B.refl w).bytes 5 s)
 have H1 := Lib.hid (show 1 ≤ s.size ∧ ¬ (2 ≤ s.size ∧ byteAt s 0 = 48) from ⟨by omega, fun h => h2 ⟨by omega, h.2⟩⟩)
 by_cases h3 : byteAt s 0 = 48
 ·have h4 : s.size = 1 := by by_cases c : s.size = 1; · exact c
                             · exact absurd ⟨c, h3⟩ h2
  rw [decide_eq_true h4, decide_eq_true h3, Bool.true_and] at hZ
  have hg0' := hg0
  rw [h3] at hg0'
  have HS := Lib.hid (And.intro h3 h4)
  clear h1 h2 h3 h4 hg0
  have hg0 := hg0'
  clear hg0'
  go_enter Tryz.func152, Tryz.ntmps152
  go_wp2
  clear hE hZ hg0 
  generalize Lib.bytesWorld w 5 s = W1 at *
  generalize w.heap.size = H at *
  go_loopw [4, 21] (fun nv iv wr => ∃ k : Nat, k ≤ s.size ∧ iv = .int .i64 k ∧ nv = .int .i64 ((valTo s k : Nat) : Int) ∧ (∀ j, j < k → digN (byteAt s j) = true) ∧ valTo s k ≤ 1000000000000 ∧ W1 = wr) (fun _ iv _ => s.size + 1 - (intOf iv).toNat)
  case atStart => exact ⟨0, by omega, rfl, rfl, fun j hj => by omega, Nat.zero_le _, rfl⟩
  case round =>
   obtain ⟨k, hk, rfl, rfl, hall, hv, rfl⟩ := hrel
   have hshort := num_short H1.out.2 hk hall hv
   by_cases hl : k < s.size
   ·have hlB : decide ((k : Int) < (s.size : Int)) = true := decide_eq_true (by omega)
    have hlI : (k : Int) < (s.size : Int) := by omega
    have wk1 : IntKind.i64.wrap ((k : Int) + 1) = (k : Int) + 1 := by rw [IntKind.wrap_i64]; omega
    have hc := hcell k hl
    have ck := fun w => kind_any (byteAt s k) w
    cases hd : digN (byteAt s k)
    ·have hK : ((kindN (byteAt s k) : Int) != 3) = true := by
      have : kindN (byteAt s k) ≠ 3 := fun e => by rw [kind_dig.2 e] at hd; cases hd
      simp; omega
     have HR := Lib.hid (numRes_no (num_bad hl hd) HB.out)
     obtain ⟨m, hm⟩ : ∃ m, byteAt s k = m := ⟨_, rfl⟩
     rw [hm] at hc hK ck
     generalize kindN m = K at *
     clear hcell hall hv hd hm HB H1 hl hk
     go_wp2_with fail
     refine (ck _).mono ?_
     rintro e w1 ⟨rfl, rfl⟩
     clear ck
     go_wp2
     go_ret2
     exact HR.out
    ·have hK : ((kindN (byteAt s k) : Int) != 3) = false := by
      have := kind_dig.1 hd
      simp; omega
     obtain ⟨d, d1, d2, d3⟩ := num_step hd
     have hall' : ∀ j, j < k + 1 → digN (byteAt s j) = true := fun j hj => by
      by_cases c : j = k
      ·subst c; exact hd
      ·exact hall j (by omega)
     obtain ⟨V, hV⟩ : ∃ V, valTo s k = V := ⟨_, rfl⟩
     obtain ⟨V', hV'⟩ : ∃ V', valTo s (k + 1) = V' := ⟨_, rfl⟩
     obtain ⟨T, hT⟩ : ∃ T, T = V * 10 := ⟨_, rfl⟩
     rw [hV] at hv
     have p1 : IntKind.i64.wrap ((V : Int) * 10) = (T : Int) := by rw [IntKind.wrap_i64]; omega
     have p2 := pick_dig d1 d2
     have p3 : IntKind.i64.wrap (d : Int) = (d : Int) := by rw [IntKind.wrap_i64]; omega
     have p4 : IntKind.i64.wrap ((T : Int) + (d : Int)) = (V' : Int) := by rw [IntKind.wrap_i64]; omega
     obtain ⟨m, hm⟩ : ∃ m, byteAt s k = m := ⟨_, rfl⟩
     rw [hm] at hc hK ck p2
     by_cases hbig : 1000000000000 < V'
     ·have bB : decide ((1000000000000 : Int) < (V' : Int)) = true := decide_eq_true (by omega)
      have HR := Lib.hid (numRes_no (num_big (s := s) (k := k + 1) (by omega) (by rw [hV']; exact hbig)) HB.out)
      generalize kindN m = K at *
      rw [hV]
      clear hcell hall hall' hv hd hm HB H1 hl hk d1 d2 d3 hV hV' hT hbig
      go_wp2_with fail
      refine (ck _).mono ?_
      rintro e w1 ⟨rfl, rfl⟩
      clear ck
      go_wp2
      go_ret2
      exact HR.out
     ·have bB : decide ((1000000000000 : Int) < (V' : Int)) = false := decide_eq_false (by omega)
      have HA := Lib.hid (And.intro hall' (And.intro hl (And.intro (show V' ≤ 1000000000000 by omega) hV')))
      generalize kindN m = K at *
      rw [hV]
      clear hcell hall hall' hv hd hm H1 hl hk d1 d2 d3 hV hV' hT hbig
      go_wp2_with fail
      refine (ck _).mono ?_
      rintro e w1 ⟨rfl, rfl⟩
      clear ck
      go_wp2
      go_roundw
      case rel => exact ⟨k + 1, by have := HA.out.2.1; omega, by go_num, by rw [HA.out.2.2.2], HA.out.1, by rw [HA.out.2.2.2]; exact HA.out.2.2.1, trivial⟩
      case measure => have := HA.out.2.1; simp [intOf]; omega
   ·have hlB : decide ((k : Int) < (s.size : Int)) = false := decide_eq_false (by omega)
    have hk' : k = s.size := by omega
    have HR := Lib.hid (show NumRes s w (.returned (.tuple #[.int .i64 ((valTo s k : Nat) : Int), .bool true])) W1 from by
     obtain ⟨e1, e2⟩ := num_yes ⟨H1.out.1, H1.out.2, fun i hi => hall i (by omega), by rw [← hk']; exact hv⟩
     exact ⟨by rw [e1, e2, hk'], HB.out⟩)
    generalize valTo s k = V at *
    clear hcell hall hv HB H1 hk hk'
    go_wp2
    go_ret2
    exact HR.out
 ·have e48 : ((byteAt s 0 : Int) == 48) = false := by simp; omega
  clear h1 h2
  generalize hb0 : byteAt s 0 = b0 at hg0 e48
  clear h3 hb0
  go_enter Tryz.func152, Tryz.ntmps152
  go_wp2
  clear hE hZ hg0 e48
  generalize Lib.bytesWorld w 5 s = W1 at *
  generalize w.heap.size = H at *
  go_loopw [4, 21] (fun nv iv wr => ∃ k : Nat, k ≤ s.size ∧ iv = .int .i64 k ∧ nv = .int .i64 ((valTo s k : Nat) : Int) ∧ (∀ j, j < k → digN (byteAt s j) = true) ∧ valTo s k ≤ 1000000000000 ∧ W1 = wr) (fun _ iv _ => s.size + 1 - (intOf iv).toNat)
  case atStart => exact ⟨0, by omega, rfl, rfl, fun j hj => by omega, Nat.zero_le _, rfl⟩
  case round =>
   obtain ⟨k, hk, rfl, rfl, hall, hv, rfl⟩ := hrel
   have hshort := num_short H1.out.2 hk hall hv
   by_cases hl : k < s.size
   ·have hlB : decide ((k : Int) < (s.size : Int)) = true := decide_eq_true (by omega)
    have hlI : (k : Int) < (s.size : Int) := by omega
    have wk1 : IntKind.i64.wrap ((k : Int) + 1) = (k : Int) + 1 := by rw [IntKind.wrap_i64]; omega
    have hc := hcell k hl
    have ck := fun w => kind_any (byteAt s k) w
    cases hd : digN (byteAt s k)
    ·have hK : ((kindN (byteAt s k) : Int) != 3) = true := by
      have : kindN (byteAt s k) ≠ 3 := fun e => by rw [kind_dig.2 e] at hd; cases hd
      simp; omega
     have HR := Lib.hid (numRes_no (num_bad hl hd) HB.out)
     obtain ⟨m, hm⟩ : ∃ m, byteAt s k = m := ⟨_, rfl⟩
     rw [hm] at hc hK ck
     generalize kindN m = K at *
     clear hcell hall hv hd hm HB H1 hl hk
     go_wp2_with fail
     refine (ck _).mono ?_
     rintro e w1 ⟨rfl, rfl⟩
     clear ck
     go_wp2
     go_ret2
     exact HR.out
    ·have hK : ((kindN (byteAt s k) : Int) != 3) = false := by
      have := kind_dig.1 hd
      simp; omega
     obtain ⟨d, d1, d2, d3⟩ := num_step hd
     have hall' : ∀ j, j < k + 1 → digN (byteAt s j) = true := fun j hj => by
      by_cases c : j = k
      ·subst c; exact hd
      ·exact hall j (by omega)
     obtain ⟨V, hV⟩ : ∃ V, valTo s k = V := ⟨_, rfl⟩
     obtain ⟨V', hV'⟩ : ∃ V', valTo s (k + 1) = V' := ⟨_, rfl⟩
     obtain ⟨T, hT⟩ : ∃ T, T = V * 10 := ⟨_, rfl⟩
     rw [hV] at hv
     have p1 : IntKind.i64.wrap ((V : Int) * 10) = (T : Int) := by rw [IntKind.wrap_i64]; omega
     have p2 := pick_dig d1 d2
     have p3 : IntKind.i64.wrap (d : Int) = (d : Int) := by rw [IntKind.wrap_i64]; omega
     have p4 : IntKind.i64.wrap ((T : Int) + (d : Int)) = (V' : Int) := by rw [IntKind.wrap_i64]; omega
     obtain ⟨m, hm⟩ : ∃ m, byteAt s k = m := ⟨_, rfl⟩
     rw [hm] at hc hK ck p2
     by_cases hbig : 1000000000000 < V'
     ·have bB : decide ((1000000000000 : Int) < (V' : Int)) = true := decide_eq_true (by omega)
      have HR := Lib.hid (numRes_no (num_big (s := s) (k := k + 1) (by omega) (by rw [hV']; exact hbig)) HB.out)
      generalize kindN m = K at *
      rw [hV]
      clear hcell hall hall' hv hd hm HB H1 hl hk d1 d2 d3 hV hV' hT hbig
      go_wp2_with fail
      refine (ck _).mono ?_
      rintro e w1 ⟨rfl, rfl⟩
      clear ck
      go_wp2
      go_ret2
      exact HR.out
     ·have bB : decide ((1000000000000 : Int) < (V' : Int)) = false := decide_eq_false (by omega)
      have HA := Lib.hid (And.intro hall' (And.intro hl (And.intro (show V' ≤ 1000000000000 by omega) hV')))
      generalize kindN m = K at *
      rw [hV]
      clear hcell hall hall' hv hd hm H1 hl hk d1 d2 d3 hV hV' hT hbig
      go_wp2_with fail
      refine (ck _).mono ?_
      rintro e w1 ⟨rfl, rfl⟩
      clear ck
      go_wp2
      go_roundw
      case rel => exact ⟨k + 1, by have := HA.out.2.1; omega, by go_num, by rw [HA.out.2.2.2], HA.out.1, by rw [HA.out.2.2.2]; exact HA.out.2.2.1, trivial⟩
      case measure => have := HA.out.2.1; simp [intOf]; omega
   ·have hlB : decide ((k : Int) < (s.size : Int)) = false := decide_eq_false (by omega)
    have hk' : k = s.size := by omega
    have HR := Lib.hid (show NumRes s w (.returned (.tuple #[.int .i64 ((valTo s k : Nat) : Int), .bool true])) W1 from by
     obtain ⟨e1, e2⟩ := num_yes ⟨H1.out.1, H1.out.2, fun i hi => hall i (by omega), by rw [← hk']; exact hv⟩
     exact ⟨by rw [e1, e2, hk'], HB.out⟩)
    generalize valTo s k = V at *
    clear hcell hall hv HB H1 hk hk'
    go_wp2
    go_ret2
    exact HR.out
end Go.Proofs.YtalnfojaccfcjaaGreatDoor
namespace Go.Proofs.YtalnfojaccfcjaaGreatDoor
open Go.RowKit
theorem kind_low {n : Nat} : lowN n = true ↔ kindN n = 1 := by
 constructor
 ·intro h
  unfold kindN
  rw [if_pos h]
 ·intro h
  unfold kindN at h
  split at h
  ·assumption
  repeat' (split at h)
  all_goals omega
set_option maxHeartbeats 1000000 in
theorem name_any (s : ByteArray) (w : World) : Calls Tryz.prog 95 #[.string s] w fun e w' => e = .returned (.bool (nameS s)) ∧ B w w' := by
 have hE := toList_empty s
 by_cases h2 : 16 < s.size
 ·have h2B : decide ((16 : Int) < (s.size : Int)) = true := decide_eq_true (by omega)
  rw [nameS_size (.inr h2)]
  clear h2 hE
  go_enter Tryz.func95, Tryz.ntmps95
  go_wp2
  go_ret
  exact ⟨rfl, B.refl _⟩
 have h2B : decide ((16 : Int) < (s.size : Int)) = false := decide_eq_false (by omega)
 by_cases h1 : s.size < 1
 ·rw [decide_eq_true h1] at hE
  rw [nameS_size (.inl h1)]
  clear h1 h2
  go_enter Tryz.func95, Tryz.ntmps95
  go_wp2
  go_ret
  exact ⟨rfl, B.refl _⟩
 rw [decide_eq_false h1] at hE
 have hz : (0 : Int) < (s.size : Int) := by omega
 have hz' : 0 < s.size := by omega
 have hg0 : ∀ h : 0 < s.size, (s[0]'h).toNat = byteAt s 0 := fun h => byteAt_get s 0 h
 have ck := fun w => kind_any (byteAt s 0) w
 cases h3 : lowN (byteAt s 0)
 ·have hK : ((kindN (byteAt s 0) : Int) != 1) = true := by
   have : kindN (byteAt s 0) ≠ 1 := fun e => by rw [kind_low.2 e] at h3; cases h3
   simp; omega
  rw [nameS_first h3]
  obtain ⟨m, hm⟩ : ∃ m, byteAt s 0 = m := ⟨_, rfl⟩
  rw [hm] at hg0 hK ck
  generalize kindN m = K at *
  clear h1 h2 h3 hm
  go_enter Tryz.func95, Tryz.ntmps95
  go_wp2_with fail
  refine (ck _).mono ?_
  rintro e w1 ⟨rfl, rfl⟩
  go_wp2
  go_ret
  exact ⟨rfl, B.refl _⟩
 have hK : ((kindN (byteAt s 0) : Int) != 1) = false := by
  have := kind_low.1 h3
  simp; omega
 have hconv := fun w => Lib.run_convert_string_bytes (P := Tryz.prog) w 9 47 5 s Tryz.underlying9 Tryz.underlying47 Tryz.underlying5
 have hcell : ∀ j, j < s.size → (Lib.bytesWorld w 5 s).cell? ⟨w.heap.size, j, none⟩ = some (.int .u8 ((byteAt s j : Nat) : Int)) := fun j hj => Lib.bytesWorld_cell w _ s j hj
 have HB := Lib.hid ((B.refl w).bytes 5 s)
 have hgood := Lib.hid (fun h => nameS_good (s := s) (by omega) (by omega) h3 h)
 have hbad := Lib.hid (show ∀ i, i < s.size → (lowN (byteAt s i) || digN (byteAt s i)) = false → nameS s = false from fun i h1 h2 => nameS_bad h1 h2)
 generalize nameS s = R at *
 have HSZ := Lib.hid (show s.size ≤ 16 by omega)
 generalize hb0 : byteAt s 0 = b0 at hg0 hK ck
 generalize kindN b0 = K at *
 clear h1 h2 h3 hb0
 go_enter Tryz.func95, Tryz.ntmps95
 go_wp2_with fail
 refine (ck _).mono ?_
 rintro e w1 ⟨rfl, rfl⟩
 clear ck
 go_wp2
 clear hg0 hK hE h2B
 generalize Lib.bytesWorld w 5 s = W1 at *
 generalize w.heap.size = H at *
 go_loopw [22] (fun iv wr => ∃ k : Nat, k ≤ s.size ∧ iv = .int .i64 k ∧ (∀ j, j < k → (lowN (byteAt s j) || digN (byteAt s j)) = true) ∧ W1 = wr) (fun iv _ => s.size + 1 - (intOf iv).toNat)
 case atStart => exact ⟨0, Nat.zero_le _, rfl, fun j hj => by omega, rfl⟩
 case round =>
  obtain ⟨k, hk, rfl, hall, rfl⟩ := hrel
  by_cases hl : k < s.size
  ·have hlB : decide ((k : Int) < (s.size : Int)) = true := decide_eq_true (by omega)
   have hlI : (k : Int) < (s.size : Int) := by omega
   have wk1 : IntKind.i64.wrap ((k : Int) + 1) = (k : Int) + 1 := by have := HSZ.out; rw [IntKind.wrap_i64]; omega
   have hc := hcell k hl
   have ck := fun w => kind_any (byteAt s k) w
   have hnext : (lowN (byteAt s k) || digN (byteAt s k)) = true → ∀ j, j < k + 1 → (lowN (byteAt s j) || digN (byteAt s j)) = true := fun h j hj => by
    by_cases c : j = k
    ·subst c; exact h
    ·exact hall j (by omega)
   obtain ⟨m, hm⟩ : ∃ m, byteAt s k = m := ⟨_, rfl⟩
   have hb := hbad.out k hl
   rw [hm] at hc ck hnext hb
   by_cases c1 : kindN m = 1
   ·have hK : ((kindN m : Int) != 1) = false := by simp; omega
    have HA := Lib.hid (And.intro (hnext (by rw [kind_low.2 c1]; rfl)) hl)
    generalize kindN m = K at *
    clear hnext hb hall hm c1 hcell hbad hgood HB hl hk
    go_wp2_with fail
    refine (ck _).mono ?_
    rintro e w1 ⟨rfl, rfl⟩
    clear ck
    go_wp2
    go_roundw
    case rel => exact ⟨k + 1, by have := HA.out.2; omega, by go_num, HA.out.1, trivial⟩
    case measure => have := HA.out.2; simp [intOf]; omega
   by_cases c3 : kindN m = 3
   ·have hK : ((kindN m : Int) != 1) = true := by simp; omega
    have hK3 : ((kindN m : Int) != 3) = false := by simp; omega
    have HA := Lib.hid (And.intro (hnext (by rw [kind_dig.2 c3]; simp)) hl)
    generalize kindN m = K at *
    clear hnext hb hall hm c1 c3 hcell hbad hgood HB hl hk
    go_wp2_with fail
    refine (ck _).mono ?_
    rintro e w1 ⟨rfl, rfl⟩
    clear ck
    go_wp2
    go_roundw
    case rel => exact ⟨k + 1, by have := HA.out.2; omega, by go_num, HA.out.1, trivial⟩
    case measure => have := HA.out.2; simp [intOf]; omega
   ·have hK : ((kindN m : Int) != 1) = true := by simp; omega
    have hK3 : ((kindN m : Int) != 3) = true := by simp; omega
    have e1 : lowN m = false := by
     cases h : lowN m
     ·rfl
     ·exact absurd (kind_low.1 h) c1
    have e3 : digN m = false := by
     cases h : digN m
     ·rfl
     ·exact absurd (kind_dig.1 h) c3
    obtain rfl := hb (by rw [e1, e3]; rfl)
    generalize kindN m = K at *
    clear hnext hb hall hm c1 c3 e1 e3 hcell hbad hgood hl hk
    go_wp2_with fail
    refine (ck _).mono ?_
    rintro e w1 ⟨rfl, rfl⟩
    clear ck
    go_wp2
    go_ret
    exact ⟨rfl, HB.out⟩
  ·have hlB : decide ((k : Int) < (s.size : Int)) = false := decide_eq_false (by omega)
   have HR := Lib.hid (hgood.out (fun i hi => hall i (by omega)))
   clear hall hgood hbad hcell hk
   go_wp2
   go_ret
   exact ⟨by rw [HR.out]; rfl, HB.out⟩
end Go.Proofs.YtalnfojaccfcjaaGreatDoor
namespace Go.Proofs.YtalnfojaccfcjaaGreatDoor
open Go.RowKit Go.Maps Go.WideMaps
set_option linter.unusedVariables false
theorem str9 : Keyed Tryz.prog 9 := string_keyed Tryz.underlying9
theorem int_zero (w : World) : (zeroValue 3).run Tryz.prog w = .ok (.int .i64 0) w := by kernel_rfl
def namedL (ns : List ByteArray) (s : ByteArray) : Bool := ns.any fun n => n.toList == s.toList
def NmAt (w : World) (b : Nat) (ns : List ByteArray) : Prop :=
 ∃ D : DataW Unit, w.ownsMap Tryz.prog 9 (plainElem Tryz.prog 3) b ns.length D ∧ Maps.Tidy D ∧ Maps.size D = ns.length ∧
  (∀ s : ByteArray, Maps.has D (.string s.data.toList) = namedL ns s) ∧
  ∀ (i : Nat) n, ns[i]? = some n → D.atKey (.string n.data.toList) (.lit (.int .i64 0)) = .lit (.int .i64 ((i : Nat) : Int))
theorem NmAt.new (w : World) : NmAt (w.alloc (.map #[] 0)) w.heap.size [] :=
 ⟨_, World.ownsMap_made w _ _ _, Maps.tidy_empty, rfl, fun _ => rfl, fun i n h => by simp at h⟩
theorem ownsMap_obj {P : Program} {k : TypeId} {R : Value → Option (DataW Unit × List MemPlace)} {w : World} {b n : Nat} {D : DataW Unit} (h : w.ownsMap P k R b n D) : ∃ es c, w.heap[b]? = some (.map es c) := by
 obtain ⟨es, c, h1, _⟩ := h
 exact ⟨es, c, h1⟩
theorem ownsMap_same {P : Program} {k : TypeId} {R : Value → Option (DataW Unit × List MemPlace)} {w w' : World} {b n : Nat} {D : DataW Unit} (h : w.ownsMap P k R b n D) (hb : w'.heap[b]? = w.heap[b]?) : w'.ownsMap P k R b n D := by
 obtain ⟨es, c, h1, h2⟩ := h
 exact ⟨es, c, hb.trans h1, h2⟩
theorem NmAt.same {w w' : World} {b : Nat} {ns : List ByteArray} (h : NmAt w b ns) (hb : w'.heap[b]? = w.heap[b]?) : NmAt w' b ns :=
 let ⟨D, h1, h2⟩ := h
 ⟨D, ownsMap_same h1 hb, h2⟩
theorem NmAt.obj {w : World} {b : Nat} {ns : List ByteArray} (h : NmAt w b ns) : ∃ es c, w.heap[b]? = some (.map es c) := let ⟨_, h1, _⟩ := h; ownsMap_obj h1
theorem namedL_snoc (ns : List ByteArray) (s x : ByteArray) : namedL (ns ++ [s]) x = (namedL ns x || s.toList == x.toList) := by simp [namedL]
theorem turned_tn {w w' : World} {b base : Nat} (h : w.mapTurned w' b) (hb : base ≤ b) {K : List (Option TypeId)} (hK : none ∈ K) : Tn K base w w' := by
 obtain ⟨es, c, es', c', ho, rfl⟩ := h
 refine ⟨rfl, rfl, rfl, by simp [ChangeMaps.setBlock], fun i hi => ?_⟩
 by_cases e : i = b
 ·subst e
  exact .inr ⟨hb, none, _, hK, ho, rfl⟩
 ·exact .inl (ChangeMaps.heap_setBlock_other ho _ e)
def Tm (b : Nat) (w w' : World) : Prop := ∀ i es c, i ≠ b → w.heap[i]? = some (.map es c) → w'.heap[i]? = some (.map es c)
theorem Tm.trans {b : Nat} {w1 w2 w3 : World} (h : Tm b w1 w2) (k : Tm b w2 w3) : Tm b w1 w3 := fun i es c hi ho => k i es c hi (h i es c hi ho)
theorem Tm.refl (b : Nat) (w : World) : Tm b w w := fun _ _ _ _ h => h
theorem Tn.tm {K : List (Option TypeId)} {base : Nat} {w w' : World} (t : Tn K base w w') (hK : none ∉ K) (b : Nat) : Tm b w w' := fun i es c _ ho => t.objm ho hK
theorem B.tm {w w' : World} (q : B w w') (b : Nat) : Tm b w w' := fun i es c _ ho => (q.below.block i (obj_lt ho)).trans ho
theorem turned_tm {w w' : World} {b : Nat} (h : w.mapTurned w' b) : Tm b w w' := fun i es c hi ho => by
 obtain ⟨es1, c1, es', c', hb, rfl⟩ := h
 exact (ChangeMaps.heap_setBlock_other hb _ hi).trans ho
theorem NmAt.tm {w w' : World} {b b' : Nat} {ns : List ByteArray} (h : NmAt w b ns) (t : Tm b' w w') (hb : b ≠ b') : NmAt w' b ns := by
 obtain ⟨es, c, ho⟩ := h.obj
 exact h.same ((t b es c hb ho).trans ho.symm)
def addN (ns : List ByteArray) (s : ByteArray) : List ByteArray := if (nameS s && !namedL ns s) = true then ns ++ [s] else ns
def kM : List (Option TypeId) := [none]
theorem key9 (s : ByteArray) (h : s.size ≤ maxLen) : keyOf Tryz.prog 9 (.string s) = some (.string s.data.toList) := by
 have := keyOf_string_mk (P := Tryz.prog) (k := 9) Tryz.underlying9 (s := s) h
 simpa using this
set_option maxHeartbeats 1000000 in
theorem lit_ne {s x : ByteArray} (h : (s.toList == x.toList) = false) : Lit.string x.data.toList ≠ Lit.string s.data.toList := by
 intro e
 rw [Lit.string.injEq] at e
 rw [Go.Lib.toList_data, Go.Lib.toList_data, e] at h
 simp at h
theorem names_put {D : DataW Unit} {ns : List ByteArray} {s : ByteArray} (hT : Maps.Tidy D) (hS : Maps.size D = ns.length) (hH : ∀ s : ByteArray, Maps.has D (.string s.data.toList) = namedL ns s)
  (hA : ∀ (i : Nat) n, ns[i]? = some n → D.atKey (.string n.data.toList) (.lit (.int .i64 0)) = .lit (.int .i64 ((i : Nat) : Int))) (hns : namedL ns s = false) :
  let D' := D.put (.string s.data.toList) (.lit (.int .i64 (ns.length : Int)))
  Maps.Tidy D' ∧ Maps.size D' = (ns ++ [s]).length ∧ (∀ x : ByteArray, Maps.has D' (.string x.data.toList) = namedL (ns ++ [s]) x) ∧
   ∀ (i : Nat) n, (ns ++ [s])[i]? = some n → D'.atKey (.string n.data.toList) (.lit (.int .i64 0)) = .lit (.int .i64 ((i : Nat) : Int)) := by
 have hk : WideAt.IsKeyLit (.string s.data.toList) := trivial
 refine ⟨hT.put hk _, ?_, fun x => ?_, fun i n hi => ?_⟩
 ·rw [size_put hT, hH, hns]
  simp [hS]
 ·rw [namedL_snoc]
  cases hx : s.toList == x.toList
  ·rw [has_put_other (lit_ne hx), hH]
   simp
  ·have e : s.data.toList = x.data.toList := by
    rw [← Go.Lib.toList_data, ← Go.Lib.toList_data]
    simpa using hx
   rw [← e, has_put_same hT.isMap hk]
   simp
 ·by_cases hl : i < ns.length
  ·rw [List.getElem?_append_left hl] at hi
   have hx : (s.toList == n.toList) = false := by
    cases hx : s.toList == n.toList
    ·rfl
    ·have : namedL ns s = true := List.any_eq_true.2 ⟨n, List.mem_of_getElem? hi, by simpa using (by simpa using hx : s.toList = n.toList).symm⟩
     rw [hns] at this
     cases this
   rw [atKey_put_other (lit_ne hx)]
   exact hA i n hi
  ·rw [List.getElem?_append_right (by omega)] at hi
   have h0 : i - ns.length = 0 := by
    rcases Nat.eq_zero_or_pos (i - ns.length) with h | h
    ·exact h
    ·rw [List.getElem?_eq_none (by simp; omega)] at hi; cases hi
   rw [h0] at hi
   obtain rfl : s = n := by simpa using hi
   obtain rfl : i = ns.length := by omega
   rw [atKey_put_same hT.isMap hk]
set_option maxRecDepth 100000 in
theorem add_any (w : World) (base b : Nat) (ns : List ByteArray) (s : ByteArray) (hs : s.size ≤ maxLen) (hn : ns.length < 1000) (hb : base ≤ b) (h : NmAt w b ns) :
  Calls Tryz.prog 52 #[.map (some b), .string s] w fun r w' => r = .returned (.bool (nameS s && !namedL ns s)) ∧ NmAt w' b (addN ns s) ∧ Tn kM base w w' ∧ Tm b w w' := by
 unfold addN
 have hkey := key9 s hs
 have h0 := h
 obtain ⟨D, hD, hT, hS, hH, hA⟩ := h
 have hHs := hH s
 cases hns : namedL ns s
 ·rw [hns] at hHs
  cases hok : nameS s
  ·refine Calls.mono (R := fun r w' => r = .returned (.bool false) ∧ NmAt w' b ns ∧ Tn kM base w w' ∧ Tm b w w') ?_ (fun _ _ h => h)
   have HR := Lib.hid h0
   clear h0 hS hH hA hT hns
   go_enter Tryz.func52, Tryz.ntmps52
   go_wp2_with (first
    | (at_lookup; refine wpList_lookup_own_ok_int _ rfl _ _ 116 rfl 9 3 .i64 str9 Tryz.underlying116 Tryz.underlying3 (int_zero _) b _ D rfl hD _ _ rfl hkey ?_; intro c _ _; rw [hHs])
    | (go_at_call 95; refine (name_any _ _).mono ?_; rintro _ w1 ⟨rfl, q1⟩; simp only [hok]))
   go_ret
   exact ⟨rfl, HR.out.same (q1.below.block _ (by obtain ⟨es, c, ho⟩ := HR.out.obj; exact obj_lt ho)), q1.tn _ _, q1.tm b⟩
  ·refine Calls.mono (R := fun r w' => r = .returned (.bool true) ∧ NmAt w' b (ns ++ [s]) ∧ Tn kM base w w' ∧ Tm b w w') ?_ (fun _ _ h => h)
   have HX := Lib.hid (And.intro hT (And.intro hS (And.intro hH (And.intro hA hns))))
   clear h0 hT hH hA hns
   go_enter Tryz.func52, Tryz.ntmps52
   go_wp2_with (first
    | (at_lookup; refine wpList_lookup_own_ok_int _ rfl _ _ 116 rfl 9 3 .i64 str9 Tryz.underlying116 Tryz.underlying3 (int_zero _) b _ D rfl hD _ _ rfl hkey ?_; intro c _ _; rw [hHs])
    | (go_at_call 95; refine (name_any _ _).mono ?_; rintro _ w1 ⟨rfl, q1⟩; simp only [hok]; have hD1 := ownsMap_same hD (q1.below.block _ hD.lt))
    | (at_len; refine wpList_len_own _ rfl _ 116 rfl 9 3 Tryz.underlying116 _ b _ D rfl hD1 ?_; rw [hS])
    | (at_mapUpdate; refine wpList_mapUpdate_in _ rfl _ _ _ 116 rfl 9 3 str9 Tryz.underlying116 _ b _ D rfl hD1 (by unfold maxLen; omega) _ _ _ rfl rfl hkey (.lit (.int .i64 (ns.length : Int))) [] (plainElem_int Tryz.underlying3 (by simp [Lit.wf, IntKind.min, IntKind.max, IntKind.signed, IntKind.bits]; omega)) ?_; intro w2 hD2 ht2))
   go_ret
   obtain ⟨hT, hS, hH, hA, hns⟩ := HX.out
   refine ⟨rfl, ?_, (q1.tn kM base).trans (turned_tn ht2 hb (by decide)), (q1.tm b).trans (turned_tm ht2)⟩
   have hp := names_put hT hS hH hA hns
   exact ⟨_, by simpa using hD2, hp⟩
 ·rw [hns] at hHs
  rw [Bool.not_true, Bool.and_false]
  refine Calls.mono (R := fun r w' => r = .returned (.bool false) ∧ NmAt w' b ns ∧ Tn kM base w w' ∧ Tm b w w') ?_ (fun _ _ h => h)
  have HR := Lib.hid h0
  clear h0 hS hH hA hT hns
  go_enter Tryz.func52, Tryz.ntmps52
  go_wp2_with (first
   | (at_lookup; refine wpList_lookup_own_ok_int _ rfl _ _ 116 rfl 9 3 .i64 str9 Tryz.underlying116 Tryz.underlying3 (int_zero _) b _ D rfl hD _ _ rfl hkey ?_; intro c _ _; rw [hHs]))
  go_ret
  exact ⟨rfl, HR.out, Tn.refl _ _ _, Tm.refl _ _⟩
end Go.Proofs.YtalnfojaccfcjaaGreatDoor
namespace Go.Proofs.YtalnfojaccfcjaaGreatDoor
open Go.RowKit Go.Maps Go.WideMaps
set_option linter.unusedVariables false
theorem laid9 : laidOutB Tryz.prog = true := by kernel_rfl
theorem wideWell : (match Tryz.prog.underlying 39 with | some (.array _ _) | some (.struct _) => true | _ => false) = true := by rw [Tryz.underlying39]
set_option maxRecDepth 100000 in
theorem wellKeyed : Keyed Tryz.prog 39 := Keyed.of_law (deep_law_laid laid9 (m := 3) (by omega) (of_decide_eq_true (by kernel_rfl)) (by kernel_rfl) wideWell)
def wkey (n : ByteArray) (r c : Int) : Lit := .string (keyBytes [.string n.data.toList, .int .i64 r, .int .i64 c])
theorem wf_i64 {r : Int} (h : I64 r) : (Lit.int .i64 r).wf = true := by
 unfold I64 at h
 simp [Lit.wf, IntKind.min, IntKind.max, IntKind.signed, IntKind.bits]
 omega
theorem keyT : Tryz.prog.keyType 39 = true := by kernel_rfl
theorem cells3 : Tryz.prog.cellsOf 39 = 3 := by kernel_rfl
theorem cellsS : Tryz.prog.cellsOf 9 = 1 := by kernel_rfl
theorem cellsI1 : Tryz.prog.cellsOf 3 = 1 := by kernel_rfl
theorem key_well (n : ByteArray) (r c : Int) (hn : n.size ≤ maxLen) (hr : I64 r) (hc : I64 c) : keyOf Tryz.prog 39 (.agg #[.string n, .int .i64 r, .int .i64 c]) = some (wkey n r c) := by
 have wr := wf_i64 hr
 have wc := wf_i64 hc
 have e : Tryz.prog.keyLits (Tryz.prog.types.size + 1) 39 [.string n, .int .i64 r, .int .i64 c] = some [.string n.data.toList, .int .i64 r, .int .i64 c] := by
  obtain ⟨m, hm⟩ : ∃ m, Tryz.prog.types.size = m + 1 := ⟨Tryz.prog.types.size - 1, by have : 0 < Tryz.prog.types.size := of_decide_eq_true (by kernel_rfl); omega⟩
  rw [hm]
  simp [Program.keyLits, Tryz.underlying39, Tryz.underlying9, Tryz.underlying3, cells3, cellsS, cellsI1, hn, wr, wc]
 unfold keyOf
 rw [Tryz.underlying39]
 simp only [keyT]
 simp [Value.formed, Tryz.underlying39, cells3, Value.cells, wkey]
 exact ⟨_, by simpa using e, rfl⟩
theorem wkey_inj {n n' : ByteArray} {r c r' c' : Int} (hn : n.size ≤ maxLen) (hr : I64 r) (hc : I64 c) (hn' : n'.size ≤ maxLen) (hr' : I64 r') (hc' : I64 c') (h : wkey n r c = wkey n' r' c') : n = n' ∧ r = r' ∧ c = c' := by
 have := wellKeyed.inj (key_well n r c hn hr hc) (h ▸ key_well n' r' c' hn' hr' hc')
 simpa using this
end Go.Proofs.YtalnfojaccfcjaaGreatDoor
