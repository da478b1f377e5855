/-
  Contract of the document's StepsRight; Contract of the document's names of steps.
-/
import Derived.Test.YthlileddhgglnaaDoorV1
import Derived.Test.YthlileddhgglnaaDoorV2
import Derived.Test.YthlileddhgglnaaDoorV3
import Derived.Test.YthlileddhgglnaaDoorV4
namespace Go.Proofs.YthlileddhgglnaaDoor
open Go.RowKit
set_option linter.unusedVariables false
set_option maxRecDepth 100000 in
set_option maxHeartbeats 2000000 in
theorem r8stepsright_any (v : Value) (L : List Sp) (w : World) (h : IsSps w v L) : Calls Tryd.prog 15 #[v] w fun e w' => e = .returned (.bool (stepsOk L)) ∧ Q w w' := by
  obtain ⟨ao, ac, rfl⟩ := h.form
  have hlen := h.len
  by_cases h200 : 200 < L.length
  · have hB : decide ((200 : Int) < (L.length : Int)) = true := decide_eq_true (by omega)
    have hN : decide (200 < L.length) = true := decide_eq_true h200
    have HR : Hid (stepsOk L = false) := Lib.hid (by unfold stepsOk; rw [decide_eq_false (by omega)]; rfl)
    clear h h200
    go_enter Tryd.func15, Tryd.ntmps15
    go_wp2
    go_ret
    exact ⟨by rw [HR.out]; rfl, Q.refl _⟩
  · have hB : decide ((200 : Int) < (L.length : Int)) = false := decide_eq_false (by omega)
    have hN : decide (200 < L.length) = false := decide_eq_false h200
    go_enter Tryd.func15, Tryd.ntmps15
    go_wp2_with fail
    go_loopw [3] (fun iv wr => ∃ i : Nat, i ≤ L.length ∧ iv = .int .i64 i ∧ (L.take i).all stepOk = true ∧ Q w wr) (fun iv _ => L.length + 1 - (intOf iv).toNat)
    case atStart => exact ⟨0, Nat.zero_le _, rfl, rfl, Q.refl _⟩
    case round =>
      obtain ⟨i, hi, rfl, hok, hQi⟩ := hrel
      obtain ⟨wo, rfl⟩ : ∃ wo : World, wo = wr := ⟨_, rfl⟩
      by_cases hl : i < L.length
      · have hlB : decide ((i : Int) < (L.length : Int)) = true := decide_eq_true (by omega)
        have hlN : decide (i < L.length) = true := decide_eq_true hl
        have hlI : (i : Int) < (L.length : Int) := by omega
        have hi0 : (0 : Int) ≤ (i : Int) := by omega
        have wk1 : IntKind.i64.wrap ((i : Int) + 1) = (i : Int) + 1 := by rw [IntKind.wrap_i64]; omega
        obtain ⟨a, cap, e1, _, _, hr⟩ := (h.keepB hQi.b).at_ hl
        obtain ⟨rfl, _, rfl⟩ : ao = some a ∧ True ∧ ac = cap := by simpa using e1
        obtain ⟨F, hF⟩ : ∃ F, L[i]? = some F := ⟨_, List.getElem?_eq_getElem hl⟩
        have hFe : L[i] = F := by rw [List.getElem?_eq_getElem hl] at hF; simpa using hF
        rw [hFe] at hr
        have hup : (L.take (i + 1)).all stepOk = stepOk F := by
          rw [List.take_add_one, hF, List.all_append, hok]
          simp
        have hbad : stepOk F = false → stepsOk L = false := fun he => by
          have e : L.all stepOk = false := List.all_eq_false.2 ⟨_, List.mem_of_getElem? hF, by simp [he]⟩
          unfold stepsOk
          rw [e, Bool.and_false]
        obtain ⟨K, N, WS, V, M⟩ := F
        obtain ⟨g0, g1, ⟨sv, g2, g5⟩, g3, g4⟩ := hr
        simp only at g0 g1 g2 g3 g4 g5
        have cS := r8stepright_any K N WS V M sv wo g5
        obtain ⟨so, sc, rfl⟩ := g5.form
        generalize stepOk ⟨K, N, WS, V, M⟩ = OK at *
        have HL := Lib.hid hl
        have HQ := Lib.hid hQi
        clear hF hFe e1 hl hQi h hok g5
        generalize WS.length = wl at *
        cases OK
        · have HR := Lib.hid (hbad rfl)
          clear hup hbad
          go_wp2_with fail
          refine cS.mono ?_
          rintro _ w5 ⟨rfl, q5⟩
          have HQ5 := Lib.hid (HQ.out.trans q5)
          clear cS g0 g1 g2 g3 g4 q5
          go_wp2
          go_ret
          exact ⟨by rw [HR.out]; rfl, HQ5.out⟩
        · have HU := Lib.hid hup
          clear hup hbad
          go_wp2_with fail
          refine cS.mono ?_
          rintro _ w5 ⟨rfl, q5⟩
          have HQ5 := Lib.hid (HQ.out.trans q5)
          clear cS g0 g1 g2 g3 g4 q5
          go_wp2
          go_roundw
          case rel => exact ⟨i + 1, by have := HL.out; omega, by go_num, HU.out, HQ5.out⟩
          case measure => have := HL.out; simp [intOf]; omega
      · have hlB : decide ((i : Int) < (L.length : Int)) = false := decide_eq_false (by omega)
        have hlN : decide (i < L.length) = false := decide_eq_false hl
        rw [List.take_of_length_le (by omega)] at hok
        have HR : Hid (stepsOk L = true) := Lib.hid (by unfold stepsOk; rw [hok, decide_eq_true (by omega : L.length ≤ 200)]; rfl)
        have HQ := Lib.hid hQi
        clear hok hl hi h hQi
        go_wp2
        go_ret
        exact ⟨by rw [HR.out]; rfl, HQ.out⟩
end Go.Proofs.YthlileddhgglnaaDoor

namespace Go.Proofs.YthlileddhgglnaaDoor
open Go.RowKit
set_option linter.unusedVariables false
theorem kind_word {k : Int} (h0 : 0 ≤ k) (h6 : k ≤ 6) : (#[Value.string { data := #[117, 115, 101] }, Value.string { data := #[102, 114, 101, 115, 104] }, Value.string { data := #[116, 114, 97, 110, 115, 102, 101, 114] }, Value.string { data := #[115, 112, 114, 101, 97, 100] }, Value.string { data := #[103, 97, 116, 104, 101, 114] }, Value.string { data := #[109, 105, 120] }, Value.string { data := #[100, 105, 108, 117, 116, 101] }] : Array Value)[k.toNat]? = some (.string (strB (kindW k))) := by
  have : k = 0 ∨ k = 1 ∨ k = 2 ∨ k = 3 ∨ k = 4 ∨ k = 5 ∨ k = 6 := by omega
  rcases this with rfl | rfl | rfl | rfl | rfl | rfl | rfl <;> rfl
theorem r8names_any (w : World) : Calls Tryd.prog 22 #[] w fun e w' => ∃ b, e = .returned (.slice (some ⟨b, 0, none⟩) 7 7) ∧ Q w w' ∧ w.heap.size ≤ b ∧ ∀ k : Int, 0 ≤ k → k ≤ 6 → w'.cell? ⟨b, k.toNat, none⟩ = some (.string (strB (kindW k))) := by
  go_enter Tryd.func22, Tryd.ntmps22
  go_wp2
  go_ret
  refine ⟨_, rfl, (Q.refl w).alloc _ _, Nat.le_refl _, fun k h0 h6 => ?_⟩
  rw [World.cell?_alloc_new]
  exact kind_word h0 h6
end Go.Proofs.YthlileddhgglnaaDoor
