/-
  Contracts of layer 3: the height of a shape.
-/
import Derived.Test.YtkiepmfknbbeaaaChecked
import Derived.Test.YtkiepmfknbbeaaaSecp
namespace Go.Proofs.Ytkiepmfknbbeaaa
open Go.RowKit

def HeightC : Prop := ∀ (v : Value) (l : List Sec) (w : World), IsSecs w v l → rightS l = true → Calls Try.prog 35 #[v] w fun e w' => e = .returned (.int .i64 (hsumI l l.length)) ∧ B w w'


set_option maxHeartbeats 1000000 in
theorem height_code : HeightC := by
  intro v l w hv hr
  obtain ⟨hl1, hl4, hok⟩ := right_all hr
  have hsm : ∀ k, k ≤ l.length → 0 ≤ hsumI l k ∧ hsumI l k ≤ 240000 := fun k hk => by
    have h := hsum_small l k (by unfold okTo; rw [List.all_eq_true]; exact fun s hs => hok s (List.mem_of_mem_take hs))
    omega
  rcases hv with ⟨rfl, rfl⟩ | ⟨a, cap, rfl, h2, h3, h4⟩
  · simp at hl1
  clear hr hok hl1 h2 h3
  go_enter Try.func35, Try.ntmps35
  go_wp2
  go_loopw [3, 8] (fun hh i wr => ∃ (k : Nat), k ≤ l.length ∧ i = .int .i64 k ∧ hh = .int .i64 (hsumI l k) ∧ Q w wr) (fun _ i _ => l.length - (intOf i).toNat)
  case atStart => exact ⟨0, Nat.zero_le _, rfl, rfl, Q.refl w⟩
  case round =>
    obtain ⟨k, hk, rfl, rfl, hq⟩ := hrel
    by_cases hl : k < l.length
    · have hlB : decide (k < l.length) = true := decide_eq_true hl
      have hg := List.getElem?_eq_getElem hl
      have hs := (h4 k _ hg).2.keep hq
      have hsu := hsumI_succ l k _ hg
      obtain ⟨m1, m2⟩ := hsm (k + 1) (by omega)
      rw [hsu] at m1 m2
      clear h4 hsm
      generalize l[k] = s at *
      generalize hsumI l k = t at *
      obtain ⟨f0, f1, f2, f3, f4, f5⟩ := hs
      have HS := Lib.hid hsu
      have HM := Lib.hid hg
      clear hsu hg
      have e1 : IntKind.i64.wrap (t + s.h) = t + s.h := wrapI (by omega) (by omega)
      go_wp2
      go_roundw
      case rel => exact ⟨k + 1, by omega, by go_num, by rw [HS.out], hq.alloc _ _⟩
      case measure => simp [intOf]; omega
    · have hlB : decide (k < l.length) = false := decide_eq_false hl
      obtain rfl : k = l.length := by omega
      clear h4 hsm
      go_wp2
      go_ret
      exact ⟨rfl, hq.b⟩
end Go.Proofs.Ytkiepmfknbbeaaa
