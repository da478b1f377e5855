/-
  Lines of words held against one another.
-/
import Derived.Test.YtknpabijhmcjhaaR8lines
import Derived.Deep.QuietTactic
import Derived.BigQuiet
namespace Go.Proofs.Ytknpabijhmcjhaa
open Go.RowKit

theorem IsLines.at_ {w : World} {v : Value} {LL : List (List Wd)} (h : IsLines w v LL) {i : Nat} (hi : i < LL.length) : ∃ g cap u, v = .slice (some ⟨g, 0, none⟩) LL.length cap ∧ w.cell? ⟨g, i, none⟩ = some u ∧ IsWords w u LL[i] := by
  rcases h with ⟨_, rfl⟩ | ⟨g, cap, h1, _, _, h4⟩
  · simp at hi
  · obtain ⟨u, k1, k2⟩ := h4 i _ (List.getElem?_eq_getElem hi)
    exact ⟨g, cap, u, h1, k1, k2⟩
theorem same_any (v1 v2 : Value) (L : List (List Wd)) (w : World) (h1 : IsLines w v1 L) (h2 : IsLines w v2 L) (hL : L.length ≤ maxLen) (hW : ∀ ws ∈ L, ws.length ≤ maxLen) :
    Calls Try.prog 12 #[v1, v2] w fun e w' => e = .returned (.bool true) ∧ Dr w w' := by
  obtain ⟨ao1, c1, rfl⟩ := h1.form
  obtain ⟨ao2, c2, rfl⟩ := h2.form
  unfold maxLen at hL hW
  go_enter Try.func12, Try.ntmps12
  go_wp2
  go_loopw [5] (fun iv wr => ∃ i : Nat, i ≤ L.length ∧ iv = .int .i64 i ∧ Dr w wr) (fun iv _ => L.length + 1 - (intOf iv).toNat)
  case atStart => exact ⟨0, by omega, rfl, Dr.refl _⟩
  case round =>
    obtain ⟨i, hi, rfl, hD⟩ := hrel
    obtain ⟨wo, rfl⟩ : ∃ wo : World, wo = wr := ⟨_, rfl⟩
    by_cases hl : i < L.length
    · have hlB : decide ((i : Int) < (L.length : Int)) = true := decide_eq_true (by omega)
      have hlI : (i : Int) < (L.length : Int) := by omega
      have hi0 : (0 : Int) ≤ (i : Int) := by omega
      obtain ⟨g1, d1, u1, e1, k1, w1⟩ := (h1.keep hD.q.b).at_ hl
      obtain ⟨g2, d2, u2, e2, k2, w2⟩ := (h2.keep hD.q.b).at_ hl
      obtain ⟨rfl, _, rfl⟩ : ao1 = some ⟨g1, 0, none⟩ ∧ True ∧ c1 = d1 := by simpa using e1
      obtain ⟨rfl, _, rfl⟩ : ao2 = some ⟨g2, 0, none⟩ ∧ True ∧ c2 = d2 := by simpa using e2
      have hw := hW _ (List.getElem_mem hl)
      obtain ⟨ws, hws⟩ : ∃ ws, L[i] = ws := ⟨_, rfl⟩
      rw [hws] at w1 w2 hw
      obtain ⟨a1, p1, rfl⟩ := w1.form
      obtain ⟨a2, p2, rfl⟩ := w2.form
      clear e1 e2 hws hW
      have Hl := Lib.hid hl
      go_wp2_with fail
      go_quiet (fail)
      obtain ⟨wd, hwd⟩ : ∃ wd, wo.drewN nq = wd := ⟨_, rfl⟩
      have hD2 : Dr w wd := by rw [← hwd]; exact hD.trans ⟨nq, rfl⟩
      have hDo : Dr wo wd := ⟨nq, hwd.symm⟩
      rw [hwd]
      go_wp2
      go_loopw [6] (fun kv wq => ∃ k : Nat, k ≤ ws.length ∧ kv = .int .i64 k ∧ Dr wd wq) (fun kv _ => ws.length + 1 - (intOf kv).toNat)
      case atStart => exact ⟨0, by omega, rfl, Dr.refl _⟩
      case round =>
        obtain ⟨k, hk, rfl, hDk⟩ := hrel
        obtain ⟨wv, rfl⟩ : ∃ wv : World, wv = wr := ⟨_, rfl⟩
        have hDl := hDo.trans hDk
        have m1 := hDl.q.keep k1
        have m2 := hDl.q.keep k2
        by_cases hlk : k < ws.length
        · have hkB : decide ((k : Int) < (ws.length : Int)) = true := decide_eq_true (by omega)
          have hkI : (k : Int) < (ws.length : Int) := by omega
          have hk0 : (0 : Int) ≤ (k : Int) := by omega
          obtain ⟨x, hx⟩ : ∃ x, ws[k]? = some x := ⟨_, List.getElem?_eq_getElem hlk⟩
          obtain ⟨b1, q1, f1, _, _, _, z1⟩ := (w1.keep hDl.q.b).full (by omega)
          obtain ⟨b2, q2, f2, _, _, _, z2⟩ := (w2.keep hDl.q.b).full (by omega)
          obtain ⟨rfl, _, rfl⟩ : a1 = some ⟨b1, 0, none⟩ ∧ True ∧ p1 = q1 := by simpa using f1
          obtain ⟨rfl, _, rfl⟩ : a2 = some ⟨b2, 0, none⟩ ∧ True ∧ p2 = q2 := by simpa using f2
          obtain ⟨n1, n2⟩ := z1 k x hx
          obtain ⟨n3, n4⟩ := z2 k x hx
          obtain ⟨X, hX⟩ : ∃ X, x.1 = X := ⟨_, rfl⟩
          obtain ⟨S, hS⟩ : ∃ S, strB x.2 = S := ⟨_, rfl⟩
          rw [hX] at n1 n3
          rw [hS] at n2 n4
          have hne : ((X : Int) != (X : Int)) = false := by simp
          have wk1 : IntKind.i64.wrap ((k : Int) + 1) = (k : Int) + 1 := by rw [IntKind.wrap_i64]; omega
          have Hlk := Lib.hid hlk
          have HD := Lib.hid hDk
          clear z1 z2 f1 f2 hx hX hS hDl hDo hD2 hD w1 w2 h1 h2 k1 k2 hlk hDk hwd
          go_wp2_with fail
          go_quiet (fail)
          go_wp2
          go_roundw
          case rel => exact ⟨k + 1, by have := Hlk.out; omega, by go_num, HD.out.trans ⟨_, rfl⟩⟩
          case measure => have := Hlk.out; simp [intOf]; omega
        · have hkB : decide ((k : Int) < (ws.length : Int)) = false := decide_eq_false (by omega)
          have wk1 : IntKind.i64.wrap ((i : Int) + 1) = (i : Int) + 1 := by rw [IntKind.wrap_i64]; omega
          have HD := Lib.hid (hD2.trans hDk)
          clear hD hD2 hDk hDl hDo w1 w2 k1 k2 h1 h2 hwd
          go_wp2
          go_roundw
          case rel => exact ⟨i + 1, by have := Hl.out; omega, by go_num, HD.out⟩
          case measure => have := Hl.out; simp [intOf]; omega
    · have hlB : decide ((i : Int) < (L.length : Int)) = false := decide_eq_false (by omega)
      have HD := Lib.hid hD
      clear h1 h2 hD
      go_wp2
      go_ret
      exact ⟨rfl, HD.out⟩
end Go.Proofs.Ytknpabijhmcjhaa
