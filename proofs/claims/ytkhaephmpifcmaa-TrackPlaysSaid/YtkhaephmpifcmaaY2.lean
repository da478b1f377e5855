/-
  Contract of the code's kind of a byte; Bytes made of a string: what was there stays; Bytes made of a string: nothing that was there turns; Contracts: the code's Name, the document's Number; The code's names: a map of what stands; add; Layer 11: a board in memory: its deck, its cache, its things by their names; The code's cache: a new one; A deck's three slices; whose name a name is. No program is named here; Layer 11: copied: a deck in new memory; The code's filled wells: a map of wells; The code's stand: a well that is to be filled; The code's bounds of a deck's numbers; The code's grid; The code's new stand; Names of rows as a map's names. No program is named here; Contract of the code's own names; The document's shapes: which may be; Contract of the document's in; Which tips may be, by the document; Contracts of layer 3: bounds of sides; Contracts of layer 3: which shapes may be; Which tips may be, by the code; A tip that may be; Drawn regions in one order: what a guard passes over, where a slot holds something already; Decks whose wares are in bounds. No program is named here; Contract of the document's number of a well; Contracts of the document's look at names; Contract of the document's look at fills; A deck that is right comes back from its lines, and what stands behind them is left. No program is named here.
-/
import Derived.Deep.QuietTactic
import Derived.BigQuiet
import Derived.Laws.StructEq
import Derived.Test.YtkhaephmpifcmaaChecked
import Derived.KernelRfl
import Derived.Lib.Hide
import Derived.DeepKeys4
import Derived.Lib.ConvBytes
import Derived.Maps.OwnSet
import Derived.Maps.OwnOps
import Derived.WalkSpells
import Derived.Carry
import Derived.Lib.MinMax
import Derived.Laws.Strings2
import Derived.Laws.Slices
import Derived.Test.YtkhaephmpifcmaaY1
namespace Go.Proofs.Ytkhaephmpifcmaa
open Go.RowKit
theorem kind_any (n : Nat) (w : World) : Calls Try.prog 77 #[.int .u8 (n : Int)] w fun e w' => e = .returned (.int .i64 ((kindN n : Nat) : Int)) ∧ w = w' := by
  have cs : (n < 9) ∨ (n = 9) ∨ (n = 10) ∨ (11 ≤ n ∧ n ≤ 31) ∨ (n = 32) ∨ (33 ≤ n ∧ n ≤ 34) ∨ (n = 35) ∨ (36 ≤ n ∧ n ≤ 45) ∨ (n = 46) ∨ (n = 47) ∨ (48 ≤ n ∧ n ≤ 57) ∨ (58 ≤ n ∧ n ≤ 64) ∨ (65 ≤ n ∧ n ≤ 90) ∨ (91 ≤ n ∧ n ≤ 96) ∨ (97 ≤ n ∧ n ≤ 122) ∨ (122 < n) := by omega
  rcases cs with c | c | c | c | c | c | c | c | c | c | c | c | c | c | c | c
  · have hk : kindN n = 0 := by unfold kindN lowN capN digN; simp only [Bool.and_eq_true, decide_eq_true_eq]; repeat (first | rw [if_pos (by omega)] | rw [if_neg (by omega)])
    rw [hk]
    have g97 : decide ((97 : Int) ≤ (n : Int)) = false := decide_eq_false (by omega)
    have g65 : decide ((65 : Int) ≤ (n : Int)) = false := decide_eq_false (by omega)
    have g48 : decide ((48 : Int) ≤ (n : Int)) = false := decide_eq_false (by omega)
    have l122 : decide ((n : Int) ≤ 122) = true := decide_eq_true (by omega)
    have l90 : decide ((n : Int) ≤ 90) = true := decide_eq_true (by omega)
    have l57 : decide ((n : Int) ≤ 57) = true := decide_eq_true (by omega)
    have e46 : ((n : Int) == 46) = false := by simp; omega
    have e32 : ((n : Int) == 32) = false := by simp; omega
    have e9 : ((n : Int) == 9) = false := by simp; omega
    have e10 : ((n : Int) == 10) = false := by simp; omega
    have e35 : ((n : Int) == 35) = false := by simp; omega
    clear c hk
    go_enter Try.func77, Try.ntmps77
    go_wp2
    go_ret
    exact ⟨rfl, rfl⟩
  · have hk : kindN n = 5 := by unfold kindN lowN capN digN; simp only [Bool.and_eq_true, decide_eq_true_eq]; repeat (first | rw [if_pos (by omega)] | rw [if_neg (by omega)])
    rw [hk]
    have g97 : decide ((97 : Int) ≤ (n : Int)) = false := decide_eq_false (by omega)
    have g65 : decide ((65 : Int) ≤ (n : Int)) = false := decide_eq_false (by omega)
    have g48 : decide ((48 : Int) ≤ (n : Int)) = false := decide_eq_false (by omega)
    have l122 : decide ((n : Int) ≤ 122) = true := decide_eq_true (by omega)
    have l90 : decide ((n : Int) ≤ 90) = true := decide_eq_true (by omega)
    have l57 : decide ((n : Int) ≤ 57) = true := decide_eq_true (by omega)
    have e46 : ((n : Int) == 46) = false := by simp; omega
    have e32 : ((n : Int) == 32) = false := by simp; omega
    have e9 : ((n : Int) == 9) = true := by simp; omega
    have e10 : ((n : Int) == 10) = false := by simp; omega
    have e35 : ((n : Int) == 35) = false := by simp; omega
    clear c hk
    go_enter Try.func77, Try.ntmps77
    go_wp2
    go_ret
    exact ⟨rfl, rfl⟩
  · have hk : kindN n = 6 := by unfold kindN lowN capN digN; simp only [Bool.and_eq_true, decide_eq_true_eq]; repeat (first | rw [if_pos (by omega)] | rw [if_neg (by omega)])
    rw [hk]
    have g97 : decide ((97 : Int) ≤ (n : Int)) = false := decide_eq_false (by omega)
    have g65 : decide ((65 : Int) ≤ (n : Int)) = false := decide_eq_false (by omega)
    have g48 : decide ((48 : Int) ≤ (n : Int)) = false := decide_eq_false (by omega)
    have l122 : decide ((n : Int) ≤ 122) = true := decide_eq_true (by omega)
    have l90 : decide ((n : Int) ≤ 90) = true := decide_eq_true (by omega)
    have l57 : decide ((n : Int) ≤ 57) = true := decide_eq_true (by omega)
    have e46 : ((n : Int) == 46) = false := by simp; omega
    have e32 : ((n : Int) == 32) = false := by simp; omega
    have e9 : ((n : Int) == 9) = false := by simp; omega
    have e10 : ((n : Int) == 10) = true := by simp; omega
    have e35 : ((n : Int) == 35) = false := by simp; omega
    clear c hk
    go_enter Try.func77, Try.ntmps77
    go_wp2
    go_ret
    exact ⟨rfl, rfl⟩
  · have hk : kindN n = 0 := by unfold kindN lowN capN digN; simp only [Bool.and_eq_true, decide_eq_true_eq]; repeat (first | rw [if_pos (by omega)] | rw [if_neg (by omega)])
    rw [hk]
    have g97 : decide ((97 : Int) ≤ (n : Int)) = false := decide_eq_false (by omega)
    have g65 : decide ((65 : Int) ≤ (n : Int)) = false := decide_eq_false (by omega)
    have g48 : decide ((48 : Int) ≤ (n : Int)) = false := decide_eq_false (by omega)
    have l122 : decide ((n : Int) ≤ 122) = true := decide_eq_true (by omega)
    have l90 : decide ((n : Int) ≤ 90) = true := decide_eq_true (by omega)
    have l57 : decide ((n : Int) ≤ 57) = true := decide_eq_true (by omega)
    have e46 : ((n : Int) == 46) = false := by simp; omega
    have e32 : ((n : Int) == 32) = false := by simp; omega
    have e9 : ((n : Int) == 9) = false := by simp; omega
    have e10 : ((n : Int) == 10) = false := by simp; omega
    have e35 : ((n : Int) == 35) = false := by simp; omega
    clear c hk
    go_enter Try.func77, Try.ntmps77
    go_wp2
    go_ret
    exact ⟨rfl, rfl⟩
  · have hk : kindN n = 5 := by unfold kindN lowN capN digN; simp only [Bool.and_eq_true, decide_eq_true_eq]; repeat (first | rw [if_pos (by omega)] | rw [if_neg (by omega)])
    rw [hk]
    have g97 : decide ((97 : Int) ≤ (n : Int)) = false := decide_eq_false (by omega)
    have g65 : decide ((65 : Int) ≤ (n : Int)) = false := decide_eq_false (by omega)
    have g48 : decide ((48 : Int) ≤ (n : Int)) = false := decide_eq_false (by omega)
    have l122 : decide ((n : Int) ≤ 122) = true := decide_eq_true (by omega)
    have l90 : decide ((n : Int) ≤ 90) = true := decide_eq_true (by omega)
    have l57 : decide ((n : Int) ≤ 57) = true := decide_eq_true (by omega)
    have e46 : ((n : Int) == 46) = false := by simp; omega
    have e32 : ((n : Int) == 32) = true := by simp; omega
    have e9 : ((n : Int) == 9) = false := by simp; omega
    have e10 : ((n : Int) == 10) = false := by simp; omega
    have e35 : ((n : Int) == 35) = false := by simp; omega
    clear c hk
    go_enter Try.func77, Try.ntmps77
    go_wp2
    go_ret
    exact ⟨rfl, rfl⟩
  · have hk : kindN n = 0 := by unfold kindN lowN capN digN; simp only [Bool.and_eq_true, decide_eq_true_eq]; repeat (first | rw [if_pos (by omega)] | rw [if_neg (by omega)])
    rw [hk]
    have g97 : decide ((97 : Int) ≤ (n : Int)) = false := decide_eq_false (by omega)
    have g65 : decide ((65 : Int) ≤ (n : Int)) = false := decide_eq_false (by omega)
    have g48 : decide ((48 : Int) ≤ (n : Int)) = false := decide_eq_false (by omega)
    have l122 : decide ((n : Int) ≤ 122) = true := decide_eq_true (by omega)
    have l90 : decide ((n : Int) ≤ 90) = true := decide_eq_true (by omega)
    have l57 : decide ((n : Int) ≤ 57) = true := decide_eq_true (by omega)
    have e46 : ((n : Int) == 46) = false := by simp; omega
    have e32 : ((n : Int) == 32) = false := by simp; omega
    have e9 : ((n : Int) == 9) = false := by simp; omega
    have e10 : ((n : Int) == 10) = false := by simp; omega
    have e35 : ((n : Int) == 35) = false := by simp; omega
    clear c hk
    go_enter Try.func77, Try.ntmps77
    go_wp2
    go_ret
    exact ⟨rfl, rfl⟩
  · have hk : kindN n = 7 := by unfold kindN lowN capN digN; simp only [Bool.and_eq_true, decide_eq_true_eq]; repeat (first | rw [if_pos (by omega)] | rw [if_neg (by omega)])
    rw [hk]
    have g97 : decide ((97 : Int) ≤ (n : Int)) = false := decide_eq_false (by omega)
    have g65 : decide ((65 : Int) ≤ (n : Int)) = false := decide_eq_false (by omega)
    have g48 : decide ((48 : Int) ≤ (n : Int)) = false := decide_eq_false (by omega)
    have l122 : decide ((n : Int) ≤ 122) = true := decide_eq_true (by omega)
    have l90 : decide ((n : Int) ≤ 90) = true := decide_eq_true (by omega)
    have l57 : decide ((n : Int) ≤ 57) = true := decide_eq_true (by omega)
    have e46 : ((n : Int) == 46) = false := by simp; omega
    have e32 : ((n : Int) == 32) = false := by simp; omega
    have e9 : ((n : Int) == 9) = false := by simp; omega
    have e10 : ((n : Int) == 10) = false := by simp; omega
    have e35 : ((n : Int) == 35) = true := by simp; omega
    clear c hk
    go_enter Try.func77, Try.ntmps77
    go_wp2
    go_ret
    exact ⟨rfl, rfl⟩
  · have hk : kindN n = 0 := by unfold kindN lowN capN digN; simp only [Bool.and_eq_true, decide_eq_true_eq]; repeat (first | rw [if_pos (by omega)] | rw [if_neg (by omega)])
    rw [hk]
    have g97 : decide ((97 : Int) ≤ (n : Int)) = false := decide_eq_false (by omega)
    have g65 : decide ((65 : Int) ≤ (n : Int)) = false := decide_eq_false (by omega)
    have g48 : decide ((48 : Int) ≤ (n : Int)) = false := decide_eq_false (by omega)
    have l122 : decide ((n : Int) ≤ 122) = true := decide_eq_true (by omega)
    have l90 : decide ((n : Int) ≤ 90) = true := decide_eq_true (by omega)
    have l57 : decide ((n : Int) ≤ 57) = true := decide_eq_true (by omega)
    have e46 : ((n : Int) == 46) = false := by simp; omega
    have e32 : ((n : Int) == 32) = false := by simp; omega
    have e9 : ((n : Int) == 9) = false := by simp; omega
    have e10 : ((n : Int) == 10) = false := by simp; omega
    have e35 : ((n : Int) == 35) = false := by simp; omega
    clear c hk
    go_enter Try.func77, Try.ntmps77
    go_wp2
    go_ret
    exact ⟨rfl, rfl⟩
  · have hk : kindN n = 4 := by unfold kindN lowN capN digN; simp only [Bool.and_eq_true, decide_eq_true_eq]; repeat (first | rw [if_pos (by omega)] | rw [if_neg (by omega)])
    rw [hk]
    have g97 : decide ((97 : Int) ≤ (n : Int)) = false := decide_eq_false (by omega)
    have g65 : decide ((65 : Int) ≤ (n : Int)) = false := decide_eq_false (by omega)
    have g48 : decide ((48 : Int) ≤ (n : Int)) = false := decide_eq_false (by omega)
    have l122 : decide ((n : Int) ≤ 122) = true := decide_eq_true (by omega)
    have l90 : decide ((n : Int) ≤ 90) = true := decide_eq_true (by omega)
    have l57 : decide ((n : Int) ≤ 57) = true := decide_eq_true (by omega)
    have e46 : ((n : Int) == 46) = true := by simp; omega
    have e32 : ((n : Int) == 32) = false := by simp; omega
    have e9 : ((n : Int) == 9) = false := by simp; omega
    have e10 : ((n : Int) == 10) = false := by simp; omega
    have e35 : ((n : Int) == 35) = false := by simp; omega
    clear c hk
    go_enter Try.func77, Try.ntmps77
    go_wp2
    go_ret
    exact ⟨rfl, rfl⟩
  · have hk : kindN n = 0 := by unfold kindN lowN capN digN; simp only [Bool.and_eq_true, decide_eq_true_eq]; repeat (first | rw [if_pos (by omega)] | rw [if_neg (by omega)])
    rw [hk]
    have g97 : decide ((97 : Int) ≤ (n : Int)) = false := decide_eq_false (by omega)
    have g65 : decide ((65 : Int) ≤ (n : Int)) = false := decide_eq_false (by omega)
    have g48 : decide ((48 : Int) ≤ (n : Int)) = false := decide_eq_false (by omega)
    have l122 : decide ((n : Int) ≤ 122) = true := decide_eq_true (by omega)
    have l90 : decide ((n : Int) ≤ 90) = true := decide_eq_true (by omega)
    have l57 : decide ((n : Int) ≤ 57) = true := decide_eq_true (by omega)
    have e46 : ((n : Int) == 46) = false := by simp; omega
    have e32 : ((n : Int) == 32) = false := by simp; omega
    have e9 : ((n : Int) == 9) = false := by simp; omega
    have e10 : ((n : Int) == 10) = false := by simp; omega
    have e35 : ((n : Int) == 35) = false := by simp; omega
    clear c hk
    go_enter Try.func77, Try.ntmps77
    go_wp2
    go_ret
    exact ⟨rfl, rfl⟩
  · have hk : kindN n = 3 := by unfold kindN lowN capN digN; simp only [Bool.and_eq_true, decide_eq_true_eq]; repeat (first | rw [if_pos (by omega)] | rw [if_neg (by omega)])
    rw [hk]
    have g97 : decide ((97 : Int) ≤ (n : Int)) = false := decide_eq_false (by omega)
    have g65 : decide ((65 : Int) ≤ (n : Int)) = false := decide_eq_false (by omega)
    have g48 : decide ((48 : Int) ≤ (n : Int)) = true := decide_eq_true (by omega)
    have l122 : decide ((n : Int) ≤ 122) = true := decide_eq_true (by omega)
    have l90 : decide ((n : Int) ≤ 90) = true := decide_eq_true (by omega)
    have l57 : decide ((n : Int) ≤ 57) = true := decide_eq_true (by omega)
    have e46 : ((n : Int) == 46) = false := by simp; omega
    have e32 : ((n : Int) == 32) = false := by simp; omega
    have e9 : ((n : Int) == 9) = false := by simp; omega
    have e10 : ((n : Int) == 10) = false := by simp; omega
    have e35 : ((n : Int) == 35) = false := by simp; omega
    clear c hk
    go_enter Try.func77, Try.ntmps77
    go_wp2
    go_ret
    exact ⟨rfl, rfl⟩
  · have hk : kindN n = 0 := by unfold kindN lowN capN digN; simp only [Bool.and_eq_true, decide_eq_true_eq]; repeat (first | rw [if_pos (by omega)] | rw [if_neg (by omega)])
    rw [hk]
    have g97 : decide ((97 : Int) ≤ (n : Int)) = false := decide_eq_false (by omega)
    have g65 : decide ((65 : Int) ≤ (n : Int)) = false := decide_eq_false (by omega)
    have g48 : decide ((48 : Int) ≤ (n : Int)) = true := decide_eq_true (by omega)
    have l122 : decide ((n : Int) ≤ 122) = true := decide_eq_true (by omega)
    have l90 : decide ((n : Int) ≤ 90) = true := decide_eq_true (by omega)
    have l57 : decide ((n : Int) ≤ 57) = false := decide_eq_false (by omega)
    have e46 : ((n : Int) == 46) = false := by simp; omega
    have e32 : ((n : Int) == 32) = false := by simp; omega
    have e9 : ((n : Int) == 9) = false := by simp; omega
    have e10 : ((n : Int) == 10) = false := by simp; omega
    have e35 : ((n : Int) == 35) = false := by simp; omega
    clear c hk
    go_enter Try.func77, Try.ntmps77
    go_wp2
    go_ret
    exact ⟨rfl, rfl⟩
  · have hk : kindN n = 2 := by unfold kindN lowN capN digN; simp only [Bool.and_eq_true, decide_eq_true_eq]; repeat (first | rw [if_pos (by omega)] | rw [if_neg (by omega)])
    rw [hk]
    have g97 : decide ((97 : Int) ≤ (n : Int)) = false := decide_eq_false (by omega)
    have g65 : decide ((65 : Int) ≤ (n : Int)) = true := decide_eq_true (by omega)
    have g48 : decide ((48 : Int) ≤ (n : Int)) = true := decide_eq_true (by omega)
    have l122 : decide ((n : Int) ≤ 122) = true := decide_eq_true (by omega)
    have l90 : decide ((n : Int) ≤ 90) = true := decide_eq_true (by omega)
    have l57 : decide ((n : Int) ≤ 57) = false := decide_eq_false (by omega)
    have e46 : ((n : Int) == 46) = false := by simp; omega
    have e32 : ((n : Int) == 32) = false := by simp; omega
    have e9 : ((n : Int) == 9) = false := by simp; omega
    have e10 : ((n : Int) == 10) = false := by simp; omega
    have e35 : ((n : Int) == 35) = false := by simp; omega
    clear c hk
    go_enter Try.func77, Try.ntmps77
    go_wp2
    go_ret
    exact ⟨rfl, rfl⟩
  · have hk : kindN n = 0 := by unfold kindN lowN capN digN; simp only [Bool.and_eq_true, decide_eq_true_eq]; repeat (first | rw [if_pos (by omega)] | rw [if_neg (by omega)])
    rw [hk]
    have g97 : decide ((97 : Int) ≤ (n : Int)) = false := decide_eq_false (by omega)
    have g65 : decide ((65 : Int) ≤ (n : Int)) = true := decide_eq_true (by omega)
    have g48 : decide ((48 : Int) ≤ (n : Int)) = true := decide_eq_true (by omega)
    have l122 : decide ((n : Int) ≤ 122) = true := decide_eq_true (by omega)
    have l90 : decide ((n : Int) ≤ 90) = false := decide_eq_false (by omega)
    have l57 : decide ((n : Int) ≤ 57) = false := decide_eq_false (by omega)
    have e46 : ((n : Int) == 46) = false := by simp; omega
    have e32 : ((n : Int) == 32) = false := by simp; omega
    have e9 : ((n : Int) == 9) = false := by simp; omega
    have e10 : ((n : Int) == 10) = false := by simp; omega
    have e35 : ((n : Int) == 35) = false := by simp; omega
    clear c hk
    go_enter Try.func77, Try.ntmps77
    go_wp2
    go_ret
    exact ⟨rfl, rfl⟩
  · have hk : kindN n = 1 := by unfold kindN lowN capN digN; simp only [Bool.and_eq_true, decide_eq_true_eq]; repeat (first | rw [if_pos (by omega)] | rw [if_neg (by omega)])
    rw [hk]
    have g97 : decide ((97 : Int) ≤ (n : Int)) = true := decide_eq_true (by omega)
    have g65 : decide ((65 : Int) ≤ (n : Int)) = true := decide_eq_true (by omega)
    have g48 : decide ((48 : Int) ≤ (n : Int)) = true := decide_eq_true (by omega)
    have l122 : decide ((n : Int) ≤ 122) = true := decide_eq_true (by omega)
    have l90 : decide ((n : Int) ≤ 90) = false := decide_eq_false (by omega)
    have l57 : decide ((n : Int) ≤ 57) = false := decide_eq_false (by omega)
    have e46 : ((n : Int) == 46) = false := by simp; omega
    have e32 : ((n : Int) == 32) = false := by simp; omega
    have e9 : ((n : Int) == 9) = false := by simp; omega
    have e10 : ((n : Int) == 10) = false := by simp; omega
    have e35 : ((n : Int) == 35) = false := by simp; omega
    clear c hk
    go_enter Try.func77, Try.ntmps77
    go_wp2
    go_ret
    exact ⟨rfl, rfl⟩
  · have hk : kindN n = 0 := by unfold kindN lowN capN digN; simp only [Bool.and_eq_true, decide_eq_true_eq]; repeat (first | rw [if_pos (by omega)] | rw [if_neg (by omega)])
    rw [hk]
    have g97 : decide ((97 : Int) ≤ (n : Int)) = true := decide_eq_true (by omega)
    have g65 : decide ((65 : Int) ≤ (n : Int)) = true := decide_eq_true (by omega)
    have g48 : decide ((48 : Int) ≤ (n : Int)) = true := decide_eq_true (by omega)
    have l122 : decide ((n : Int) ≤ 122) = false := decide_eq_false (by omega)
    have l90 : decide ((n : Int) ≤ 90) = false := decide_eq_false (by omega)
    have l57 : decide ((n : Int) ≤ 57) = false := decide_eq_false (by omega)
    have e46 : ((n : Int) == 46) = false := by simp; omega
    have e32 : ((n : Int) == 32) = false := by simp; omega
    have e9 : ((n : Int) == 9) = false := by simp; omega
    have e10 : ((n : Int) == 10) = false := by simp; omega
    have e35 : ((n : Int) == 35) = false := by simp; omega
    clear c hk
    go_enter Try.func77, Try.ntmps77
    go_wp2
    go_ret
    exact ⟨rfl, rfl⟩
end Go.Proofs.Ytkhaephmpifcmaa

namespace Go.Proofs.Ytkhaephmpifcmaa
open Go.RowKit
set_option linter.unusedVariables false
theorem B.bytes {a w : World} (h : B a w) (e : TypeId) (s : ByteArray) : B a (Lib.bytesWorld w e s) :=
  ⟨⟨h.below.os, h.below.tape, h.below.output, by rw [Lib.bytesWorld_size]; have := h.below.size; omega, fun k hk => by
    rw [Lib.bytesWorld_at_old w e s k (Nat.lt_of_lt_of_le hk h.below.size)]
    exact h.below.block k hk⟩⟩
end Go.Proofs.Ytkhaephmpifcmaa

namespace Go.Proofs.Ytkhaephmpifcmaa
open Go.RowKit
theorem kind_dig {n : Nat} : digN n = true ↔ kindN n = 3 := by
  constructor
  · intro h
    have := digN_iff.1 h
    unfold kindN lowN capN
    simp only [Bool.and_eq_true, decide_eq_true_eq]
    rw [if_neg (by omega), if_neg (by omega), if_pos h]
  · intro h
    unfold kindN at h
    split at h; · omega
    split at h; · omega
    split at h
    · assumption
    repeat' (split at h)
    all_goals omega
end Go.Proofs.Ytkhaephmpifcmaa

namespace Go.Proofs.Ytkhaephmpifcmaa
open Go.RowKit
theorem kind_low {n : Nat} : lowN n = true ↔ kindN n = 1 := by
  constructor
  · intro h
    unfold kindN
    rw [if_pos h]
  · intro h
    unfold kindN at h
    split at h
    · assumption
    repeat' (split at h)
    all_goals omega
set_option maxHeartbeats 1000000 in
theorem name_any (s : ByteArray) (w : World) : Calls Try.prog 68 #[.string s] w fun e w' => e = .returned (.bool (nameS s)) ∧ B w w' := by
  have hE := toList_empty s
  by_cases h2 : 16 < s.size
  · have h2B : decide ((16 : Int) < (s.size : Int)) = true := decide_eq_true (by omega)
    rw [nameS_size (.inr h2)]
    clear h2 hE
    go_enter Try.func68, Try.ntmps68
    go_wp2
    go_ret
    exact ⟨rfl, B.refl _⟩
  have h2B : decide ((16 : Int) < (s.size : Int)) = false := decide_eq_false (by omega)
  by_cases h1 : s.size < 1
  · rw [decide_eq_true h1] at hE
    rw [nameS_size (.inl h1)]
    clear h1 h2
    go_enter Try.func68, Try.ntmps68
    go_wp2
    go_ret
    exact ⟨rfl, B.refl _⟩
  rw [decide_eq_false h1] at hE
  have hz : (0 : Int) < (s.size : Int) := by omega
  have hz' : 0 < s.size := by omega
  have hg0 : ∀ h : 0 < s.size, (s[0]'h).toNat = byteAt s 0 := fun h => byteAt_get s 0 h
  have ck := fun w => kind_any (byteAt s 0) w
  cases h3 : lowN (byteAt s 0)
  · have hK : ((kindN (byteAt s 0) : Int) != 1) = true := by
      have : kindN (byteAt s 0) ≠ 1 := fun e => by rw [kind_low.2 e] at h3; cases h3
      simp; omega
    rw [nameS_first h3]
    obtain ⟨m, hm⟩ : ∃ m, byteAt s 0 = m := ⟨_, rfl⟩
    rw [hm] at hg0 hK ck
    generalize kindN m = K at *
    clear h1 h2 h3 hm
    go_enter Try.func68, Try.ntmps68
    go_wp2_with fail
    refine (ck _).mono ?_
    rintro e w1 ⟨rfl, rfl⟩
    go_wp2
    go_ret
    exact ⟨rfl, B.refl _⟩
  have hK : ((kindN (byteAt s 0) : Int) != 1) = false := by
    have := kind_low.1 h3
    simp; omega
  have hconv := fun w => Lib.run_convert_string_bytes (P := Try.prog) w 9 163 5 s Try.underlying9 Try.underlying163 Try.underlying5
  have hcell : ∀ j, j < s.size → (Lib.bytesWorld w 5 s).cell? ⟨w.heap.size, j, none⟩ = some (.int .u8 ((byteAt s j : Nat) : Int)) := fun j hj => Lib.bytesWorld_cell w _ s j hj
  have HB := Lib.hid ((B.refl w).bytes 5 s)
  have hgood := Lib.hid (fun h => nameS_good (s := s) (by omega) (by omega) h3 h)
  have hbad := Lib.hid (show ∀ i, i < s.size → (lowN (byteAt s i) || digN (byteAt s i)) = false → nameS s = false from fun i h1 h2 => nameS_bad h1 h2)
  generalize nameS s = R at *
  have HSZ := Lib.hid (show s.size ≤ 16 by omega)
  generalize hb0 : byteAt s 0 = b0 at hg0 hK ck
  generalize kindN b0 = K at *
  clear h1 h2 h3 hb0
  go_enter Try.func68, Try.ntmps68
  go_wp2_with fail
  refine (ck _).mono ?_
  rintro e w1 ⟨rfl, rfl⟩
  clear ck
  go_wp2
  clear hg0 hK hE h2B
  generalize Lib.bytesWorld w 5 s = W1 at *
  generalize w.heap.size = H at *
  go_loopw [22] (fun iv wr => ∃ k : Nat, k ≤ s.size ∧ iv = .int .i64 k ∧ (∀ j, j < k → (lowN (byteAt s j) || digN (byteAt s j)) = true) ∧ W1 = wr) (fun iv _ => s.size + 1 - (intOf iv).toNat)
  case atStart => exact ⟨0, Nat.zero_le _, rfl, fun j hj => by omega, rfl⟩
  case round =>
    obtain ⟨k, hk, rfl, hall, rfl⟩ := hrel
    by_cases hl : k < s.size
    · have hlB : decide ((k : Int) < (s.size : Int)) = true := decide_eq_true (by omega)
      have hlI : (k : Int) < (s.size : Int) := by omega
      have wk1 : IntKind.i64.wrap ((k : Int) + 1) = (k : Int) + 1 := by have := HSZ.out; rw [IntKind.wrap_i64]; omega
      have hc := hcell k hl
      have ck := fun w => kind_any (byteAt s k) w
      have hnext : (lowN (byteAt s k) || digN (byteAt s k)) = true → ∀ j, j < k + 1 → (lowN (byteAt s j) || digN (byteAt s j)) = true := fun h j hj => by
        by_cases c : j = k
        · subst c; exact h
        · exact hall j (by omega)
      obtain ⟨m, hm⟩ : ∃ m, byteAt s k = m := ⟨_, rfl⟩
      have hb := hbad.out k hl
      rw [hm] at hc ck hnext hb
      by_cases c1 : kindN m = 1
      · have hK : ((kindN m : Int) != 1) = false := by simp; omega
        have HA := Lib.hid (And.intro (hnext (by rw [kind_low.2 c1]; rfl)) hl)
        generalize kindN m = K at *
        clear hnext hb hall hm c1 hcell hbad hgood HB hl hk
        go_wp2_with fail
        refine (ck _).mono ?_
        rintro e w1 ⟨rfl, rfl⟩
        clear ck
        go_wp2
        go_roundw
        case rel => exact ⟨k + 1, by have := HA.out.2; omega, by go_num, HA.out.1, trivial⟩
        case measure => have := HA.out.2; simp [intOf]; omega
      by_cases c3 : kindN m = 3
      · have hK : ((kindN m : Int) != 1) = true := by simp; omega
        have hK3 : ((kindN m : Int) != 3) = false := by simp; omega
        have HA := Lib.hid (And.intro (hnext (by rw [kind_dig.2 c3]; simp)) hl)
        generalize kindN m = K at *
        clear hnext hb hall hm c1 c3 hcell hbad hgood HB hl hk
        go_wp2_with fail
        refine (ck _).mono ?_
        rintro e w1 ⟨rfl, rfl⟩
        clear ck
        go_wp2
        go_roundw
        case rel => exact ⟨k + 1, by have := HA.out.2; omega, by go_num, HA.out.1, trivial⟩
        case measure => have := HA.out.2; simp [intOf]; omega
      · have hK : ((kindN m : Int) != 1) = true := by simp; omega
        have hK3 : ((kindN m : Int) != 3) = true := by simp; omega
        have e1 : lowN m = false := by
          cases h : lowN m
          · rfl
          · exact absurd (kind_low.1 h) c1
        have e3 : digN m = false := by
          cases h : digN m
          · rfl
          · exact absurd (kind_dig.1 h) c3
        obtain rfl := hb (by rw [e1, e3]; rfl)
        generalize kindN m = K at *
        clear hnext hb hall hm c1 c3 e1 e3 hcell hbad hgood hl hk
        go_wp2_with fail
        refine (ck _).mono ?_
        rintro e w1 ⟨rfl, rfl⟩
        clear ck
        go_wp2
        go_ret
        exact ⟨rfl, HB.out⟩
    · have hlB : decide ((k : Int) < (s.size : Int)) = false := decide_eq_false (by omega)
      have HR := Lib.hid (hgood.out (fun i hi => hall i (by omega)))
      clear hall hgood hbad hcell hk
      go_wp2
      go_ret
      exact ⟨by rw [HR.out]; rfl, HB.out⟩
end Go.Proofs.Ytkhaephmpifcmaa

namespace Go.Proofs.Ytkhaephmpifcmaa
open Go.RowKit Go.Maps Go.WideMaps
set_option linter.unusedVariables false
theorem str9 : Keyed Try.prog 9 := string_keyed Try.underlying9
theorem int_zero (w : World) : (zeroValue 3).run Try.prog w = .ok (.int .i64 0) w := by kernel_rfl
def namedL (ns : List ByteArray) (s : ByteArray) : Bool := ns.any fun n => n.toList == s.toList
/-- A map of names, each with its place. -/
def NmAt (w : World) (b : Nat) (ns : List ByteArray) : Prop :=
  ∃ D : DataW Unit, w.ownsMap Try.prog 9 (plainElem Try.prog 3) b ns.length D ∧ Maps.Tidy D ∧ Maps.size D = ns.length ∧
    (∀ s : ByteArray, Maps.has D (.string s.data.toList) = namedL ns s) ∧
    ∀ (i : Nat) n, ns[i]? = some n → D.atKey (.string n.data.toList) (.lit (.int .i64 0)) = .lit (.int .i64 ((i : Nat) : Int))
theorem NmAt.new (w : World) : NmAt (w.alloc (.map #[] 0)) w.heap.size [] :=
  ⟨_, World.ownsMap_made w _ _ _, Maps.tidy_empty, rfl, fun _ => rfl, fun i n h => by simp at h⟩
theorem ownsMap_obj {P : Program} {k : TypeId} {R : Value → Option (DataW Unit × List MemPlace)} {w : World} {b n : Nat} {D : DataW Unit} (h : w.ownsMap P k R b n D) : ∃ es c, w.heap[b]? = some (.map es c) := by
  obtain ⟨es, c, h1, _⟩ := h
  exact ⟨es, c, h1⟩
theorem ownsMap_same {P : Program} {k : TypeId} {R : Value → Option (DataW Unit × List MemPlace)} {w w' : World} {b n : Nat} {D : DataW Unit} (h : w.ownsMap P k R b n D) (hb : w'.heap[b]? = w.heap[b]?) : w'.ownsMap P k R b n D := by
  obtain ⟨es, c, h1, h2⟩ := h
  exact ⟨es, c, hb.trans h1, h2⟩
theorem NmAt.same {w w' : World} {b : Nat} {ns : List ByteArray} (h : NmAt w b ns) (hb : w'.heap[b]? = w.heap[b]?) : NmAt w' b ns :=
  let ⟨D, h1, h2⟩ := h
  ⟨D, ownsMap_same h1 hb, h2⟩
theorem NmAt.obj {w : World} {b : Nat} {ns : List ByteArray} (h : NmAt w b ns) : ∃ es c, w.heap[b]? = some (.map es c) := let ⟨_, h1, _⟩ := h; ownsMap_obj h1
theorem namedL_snoc (ns : List ByteArray) (s x : ByteArray) : namedL (ns ++ [s]) x = (namedL ns x || s.toList == x.toList) := by simp [namedL]
theorem turned_tn {w w' : World} {b base : Nat} (h : w.mapTurned w' b) (hb : base ≤ b) {K : List (Option TypeId)} (hK : none ∈ K) : Tn K base w w' := by
  obtain ⟨es, c, es', c', ho, rfl⟩ := h
  refine ⟨rfl, rfl, rfl, by simp [ChangeMaps.setBlock], fun i hi => ?_⟩
  by_cases e : i = b
  · subst e
    exact .inr ⟨hb, none, _, hK, ho, rfl⟩
  · exact .inl (ChangeMaps.heap_setBlock_other ho _ e)
/-- Maps stay, but for one. -/
def Tm (b : Nat) (w w' : World) : Prop := ∀ i es c, i ≠ b → w.heap[i]? = some (.map es c) → w'.heap[i]? = some (.map es c)
theorem Tm.trans {b : Nat} {w1 w2 w3 : World} (h : Tm b w1 w2) (k : Tm b w2 w3) : Tm b w1 w3 := fun i es c hi ho => k i es c hi (h i es c hi ho)
theorem Tm.refl (b : Nat) (w : World) : Tm b w w := fun _ _ _ _ h => h
theorem Tn.tm {K : List (Option TypeId)} {base : Nat} {w w' : World} (t : Tn K base w w') (hK : none ∉ K) (b : Nat) : Tm b w w' := fun i es c _ ho => t.objm ho hK
theorem B.tm {w w' : World} (q : B w w') (b : Nat) : Tm b w w' := fun i es c _ ho => (q.below.block i (obj_lt ho)).trans ho
theorem turned_tm {w w' : World} {b : Nat} (h : w.mapTurned w' b) : Tm b w w' := fun i es c hi ho => by
  obtain ⟨es1, c1, es', c', hb, rfl⟩ := h
  exact (ChangeMaps.heap_setBlock_other hb _ hi).trans ho
theorem NmAt.tm {w w' : World} {b b' : Nat} {ns : List ByteArray} (h : NmAt w b ns) (t : Tm b' w w') (hb : b ≠ b') : NmAt w' b ns := by
  obtain ⟨es, c, ho⟩ := h.obj
  exact h.same ((t b es c hb ho).trans ho.symm)
/-- Names, one more if it may be. -/
def addN (ns : List ByteArray) (s : ByteArray) : List ByteArray := if (nameS s && !namedL ns s) = true then ns ++ [s] else ns
def kM : List (Option TypeId) := [none]
theorem key9 (s : ByteArray) (h : s.size ≤ maxLen) : keyOf Try.prog 9 (.string s) = some (.string s.data.toList) := by
  have := keyOf_string_mk (P := Try.prog) (k := 9) Try.underlying9 (s := s) h
  simpa using this
set_option maxHeartbeats 1000000 in
theorem lit_ne {s x : ByteArray} (h : (s.toList == x.toList) = false) : Lit.string x.data.toList ≠ Lit.string s.data.toList := by
  intro e
  rw [Lit.string.injEq] at e
  rw [Go.Lib.toList_data, Go.Lib.toList_data, e] at h
  simp at h
theorem names_put {D : DataW Unit} {ns : List ByteArray} {s : ByteArray} (hT : Maps.Tidy D) (hS : Maps.size D = ns.length) (hH : ∀ s : ByteArray, Maps.has D (.string s.data.toList) = namedL ns s)
    (hA : ∀ (i : Nat) n, ns[i]? = some n → D.atKey (.string n.data.toList) (.lit (.int .i64 0)) = .lit (.int .i64 ((i : Nat) : Int))) (hns : namedL ns s = false) :
    let D' := D.put (.string s.data.toList) (.lit (.int .i64 (ns.length : Int)))
    Maps.Tidy D' ∧ Maps.size D' = (ns ++ [s]).length ∧ (∀ x : ByteArray, Maps.has D' (.string x.data.toList) = namedL (ns ++ [s]) x) ∧
      ∀ (i : Nat) n, (ns ++ [s])[i]? = some n → D'.atKey (.string n.data.toList) (.lit (.int .i64 0)) = .lit (.int .i64 ((i : Nat) : Int)) := by
  have hk : WideAt.IsKeyLit (.string s.data.toList) := trivial
  refine ⟨hT.put hk _, ?_, fun x => ?_, fun i n hi => ?_⟩
  · rw [size_put hT, hH, hns]
    simp [hS]
  · rw [namedL_snoc]
    cases hx : s.toList == x.toList
    · rw [has_put_other (lit_ne hx), hH]
      simp
    · have e : s.data.toList = x.data.toList := by
        rw [← Go.Lib.toList_data, ← Go.Lib.toList_data]
        simpa using hx
      rw [← e, has_put_same hT.isMap hk]
      simp
  · by_cases hl : i < ns.length
    · rw [List.getElem?_append_left hl] at hi
      have hx : (s.toList == n.toList) = false := by
        cases hx : s.toList == n.toList
        · rfl
        · have : namedL ns s = true := List.any_eq_true.2 ⟨n, List.mem_of_getElem? hi, by simpa using (by simpa using hx : s.toList = n.toList).symm⟩
          rw [hns] at this
          cases this
      rw [atKey_put_other (lit_ne hx)]
      exact hA i n hi
    · rw [List.getElem?_append_right (by omega)] at hi
      have h0 : i - ns.length = 0 := by
        rcases Nat.eq_zero_or_pos (i - ns.length) with h | h
        · exact h
        · rw [List.getElem?_eq_none (by simp; omega)] at hi; cases hi
      rw [h0] at hi
      obtain rfl : s = n := by simpa using hi
      obtain rfl : i = ns.length := by omega
      rw [atKey_put_same hT.isMap hk]
set_option maxRecDepth 100000 in
theorem nadd_any (w : World) (base b : Nat) (ns : List ByteArray) (s : ByteArray) (hs : s.size ≤ maxLen) (hn : ns.length < 1000) (hb : base ≤ b) (h : NmAt w b ns) :
    Calls Try.prog 47 #[.map (some b), .string s] w fun r w' => r = .returned (.bool (nameS s && !namedL ns s)) ∧ NmAt w' b (addN ns s) ∧ Tn kM base w w' ∧ Tm b w w' := by
  unfold addN
  have hkey := key9 s hs
  have h0 := h
  obtain ⟨D, hD, hT, hS, hH, hA⟩ := h
  have hHs := hH s
  cases hns : namedL ns s
  · rw [hns] at hHs
    cases hok : nameS s
    · refine Calls.mono (R := fun r w' => r = .returned (.bool false) ∧ NmAt w' b ns ∧ Tn kM base w w' ∧ Tm b w w') ?_ (fun _ _ h => h)
      have HR := Lib.hid h0
      clear h0 hS hH hA hT hns
      go_enter Try.func47, Try.ntmps47
      go_wp2_with (first
        | (at_lookup; refine wpList_lookup_own_ok_int _ rfl _ _ 128 rfl 9 3 .i64 str9 Try.underlying128 Try.underlying3 (int_zero _) b _ D rfl hD _ _ rfl hkey ?_; intro c _ _; rw [hHs])
        | (go_at_call 68; refine (name_any _ _).mono ?_; rintro _ w1 ⟨rfl, q1⟩; simp only [hok]))
      go_ret
      exact ⟨rfl, HR.out.same (q1.below.block _ (by obtain ⟨es, c, ho⟩ := HR.out.obj; exact obj_lt ho)), q1.tn _ _, q1.tm b⟩
    · refine Calls.mono (R := fun r w' => r = .returned (.bool true) ∧ NmAt w' b (ns ++ [s]) ∧ Tn kM base w w' ∧ Tm b w w') ?_ (fun _ _ h => h)
      have HX := Lib.hid (And.intro hT (And.intro hS (And.intro hH (And.intro hA hns))))
      clear h0 hT hH hA hns
      go_enter Try.func47, Try.ntmps47
      go_wp2_with (first
        | (at_lookup; refine wpList_lookup_own_ok_int _ rfl _ _ 128 rfl 9 3 .i64 str9 Try.underlying128 Try.underlying3 (int_zero _) b _ D rfl hD _ _ rfl hkey ?_; intro c _ _; rw [hHs])
        | (go_at_call 68; refine (name_any _ _).mono ?_; rintro _ w1 ⟨rfl, q1⟩; simp only [hok]; have hD1 := ownsMap_same hD (q1.below.block _ hD.lt))
        | (at_len; refine wpList_len_own _ rfl _ 128 rfl 9 3 Try.underlying128 _ b _ D rfl hD1 ?_; rw [hS])
        | (at_mapUpdate; refine wpList_mapUpdate_in _ rfl _ _ _ 128 rfl 9 3 str9 Try.underlying128 _ b _ D rfl hD1 (by unfold maxLen; omega) _ _ _ rfl rfl hkey (.lit (.int .i64 (ns.length : Int))) [] (plainElem_int Try.underlying3 (by simp [Lit.wf, IntKind.min, IntKind.max, IntKind.signed, IntKind.bits]; omega)) ?_; intro w2 hD2 ht2))
      go_ret
      obtain ⟨hT, hS, hH, hA, hns⟩ := HX.out
      refine ⟨rfl, ?_, (q1.tn kM base).trans (turned_tn ht2 hb (by decide)), (q1.tm b).trans (turned_tm ht2)⟩
      have hp := names_put hT hS hH hA hns
      exact ⟨_, by simpa using hD2, hp⟩
  · rw [hns] at hHs
    rw [Bool.not_true, Bool.and_false]
    refine Calls.mono (R := fun r w' => r = .returned (.bool false) ∧ NmAt w' b ns ∧ Tn kM base w w' ∧ Tm b w w') ?_ (fun _ _ h => h)
    have HR := Lib.hid h0
    clear h0 hS hH hA hT hns
    go_enter Try.func47, Try.ntmps47
    go_wp2_with (first
      | (at_lookup; refine wpList_lookup_own_ok_int _ rfl _ _ 128 rfl 9 3 .i64 str9 Try.underlying128 Try.underlying3 (int_zero _) b _ D rfl hD _ _ rfl hkey ?_; intro c _ _; rw [hHs]))
    go_ret
    exact ⟨rfl, HR.out, Tn.refl _ _ _, Tm.refl _ _⟩
theorem NmAt.tn {K : List (Option TypeId)} {base : Nat} {w w' : World} {b : Nat} {ns : List ByteArray} (h : NmAt w b ns) (t : Tn K base w w') (hK : none ∉ K) : NmAt w' b ns := by
  obtain ⟨es, c, ho⟩ := h.obj
  exact h.same ((t.objm ho hK).trans ho.symm)
theorem addN_yes {ns : List ByteArray} {s : ByteArray} (h : (nameS s && !namedL ns s) = true) : addN ns s = ns ++ [s] := by unfold addN; rw [if_pos h]
end Go.Proofs.Ytkhaephmpifcmaa

namespace Go.Proofs.Ytkhaephmpifcmaa
open Go.RowKit Go.Maps Go.WideMaps
set_option linter.unusedVariables false
/-- What a map of things holds at a name. -/
def thD : List ByteArray → List Nat → ByteArray → DataW Unit
  | n :: ns, b :: bs, s => if n.toList == s.toList then .lit (.int .i64 b) else thD ns bs s
  | _, _, _ => .nil
theorem thD_no : ∀ (ns : List ByteArray) (bs : List Nat) (s : ByteArray), namedL ns s = false → thD ns bs s = .nil
  | [], _, _, _ => by simp [thD]
  | _ :: _, [], _, _ => by simp [thD]
  | n :: ns, b :: bs, s, h => by
    simp only [namedL, List.any_cons, Bool.or_eq_false_iff] at h
    rw [thD, h.1]
    exact thD_no ns bs s h.2
theorem thD_snoc : ∀ (ns : List ByteArray) (bs : List Nat) (n : ByteArray) (b : Nat) (s : ByteArray), ns.length = bs.length → thD (ns ++ [n]) (bs ++ [b]) s = if namedL ns s then thD ns bs s else if n.toList == s.toList then .lit (.int .i64 b) else .nil
  | [], [], n, b, s, _ => by simp [thD, namedL]
  | [], _ :: _, _, _, _, h => by simp at h
  | _ :: _, [], _, _, _, h => by simp at h
  | x :: ns, y :: bs, n, b, s, h => by
    show thD (x :: (ns ++ [n])) (y :: (bs ++ [b])) s = _
    rw [thD]
    cases hx : x.toList == s.toList
    · simp only [Bool.false_eq_true, if_false]
      rw [thD_snoc ns bs n b s (by simpa using h)]
      simp only [namedL, List.any_cons, hx, Bool.false_or]
      rw [thD, hx]
      simp
    · simp only [if_true]
      simp only [namedL, List.any_cons, hx, Bool.true_or, if_true]
      rw [thD, hx]
      simp
/-- The first of a name. -/
theorem thD_at : ∀ (ns : List ByteArray) (bs : List Nat) (i : Nat) (n : ByteArray) (b : Nat), ns[i]? = some n → bs[i]? = some b → (∀ j m, j < i → ns[j]? = some m → (m.toList == n.toList) = false) → thD ns bs n = .lit (.int .i64 b)
  | [], _, _, _, _, h, _, _ => by simp at h
  | _ :: _, [], _, _, _, _, h, _ => by simp at h
  | x :: ns, y :: bs, 0, n, b, h, h', _ => by
    obtain rfl : x = n := by simpa using h
    obtain rfl : y = b := by simpa using h'
    rw [thD, beq_self_eq_true]
    simp
  | x :: ns, y :: bs, i + 1, n, b, h, h', hne => by
    have h0 := hne 0 x (by omega) rfl
    rw [thD, h0]
    simp only [Bool.false_eq_true, if_false]
    exact thD_at ns bs i n b (by simpa using h) (by simpa using h') (fun j m hj hm => hne (j + 1) m (by omega) (by simpa using hm))
/-- A map of things. -/
def ThMap (w : World) (m : Nat) (ns : List ByteArray) (bs : List Nat) : Prop :=
  ∃ D : DataW Unit, w.ownsMap Try.prog 9 ptrElem m ns.length D ∧ Maps.IsMap D ∧ (∀ s : ByteArray, D.atKey (.string s.data.toList) .nil = thD ns bs s) ∧ ∀ s : ByteArray, Maps.has D (.string s.data.toList) = namedL ns s
theorem ThMap.same {w w' : World} {b : Nat} {ns : List ByteArray} {bs : List Nat} (h : ThMap w b ns bs) (hb : w'.heap[b]? = w.heap[b]?) : ThMap w' b ns bs :=
  let ⟨D, h1, h2⟩ := h
  ⟨D, ownsMap_same h1 hb, h2⟩
theorem ThMap.obj {w : World} {b : Nat} {ns : List ByteArray} {bs : List Nat} (h : ThMap w b ns bs) : ∃ es c, w.heap[b]? = some (.map es c) := let ⟨_, h1, _⟩ := h; ownsMap_obj h1
theorem ThMap.g {S : Nat → Prop} {w w' : World} {b : Nat} {ns : List ByteArray} {bs : List Nat} (h : ThMap w b ns bs) (q : G S w w') (hb : ¬ S b) : ThMap w' b ns bs := by
  obtain ⟨es, c, ho⟩ := h.obj
  exact h.same ((q.obj hb ho).trans ho.symm)
theorem ThMap.new (w : World) : ThMap (w.alloc (.map #[] 0)) w.heap.size [] [] :=
  ⟨_, World.ownsMap_made w _ _ _, Maps.isMap_empty, fun _ => rfl, fun _ => rfl⟩
theorem th_put {D : DataW Unit} {ns : List ByteArray} {bs : List Nat} {n : ByteArray} {b : Nat} (hM : Maps.IsMap D) (hl : ns.length = bs.length) (hA : ∀ s : ByteArray, D.atKey (.string s.data.toList) .nil = thD ns bs s) (hH : ∀ s : ByteArray, Maps.has D (.string s.data.toList) = namedL ns s) (hn : namedL ns n = false) :
    (∀ s : ByteArray, (D.put (.string n.data.toList) (.lit (.int .i64 b))).atKey (.string s.data.toList) .nil = thD (ns ++ [n]) (bs ++ [b]) s) ∧ ∀ s : ByteArray, Maps.has (D.put (.string n.data.toList) (.lit (.int .i64 b))) (.string s.data.toList) = namedL (ns ++ [n]) s := by
  have hk : WideAt.IsKeyLit (.string n.data.toList) := trivial
  refine ⟨fun s => ?_, fun s => ?_⟩
  · rw [thD_snoc ns bs n b s hl]
    cases hs : n.toList == s.toList
    · rw [atKey_put_other (lit_ne hs), hA]
      cases hx : namedL ns s
      · rw [thD_no ns bs s hx]; simp
      · simp
    · have e : n.data.toList = s.data.toList := by
        rw [← Go.Lib.toList_data, ← Go.Lib.toList_data]
        simpa using hs
      have hx : namedL ns s = false := by
        unfold namedL at hn ⊢
        rw [show s.toList = n.toList by simpa using (by simpa using hs : n.toList = s.toList).symm]
        exact hn
      rw [← e, atKey_put_same hM hk, hx]
      simp
  · rw [namedL_snoc]
    cases hx : n.toList == s.toList
    · rw [has_put_other (lit_ne hx), hH]
      simp
    · have e : n.data.toList = s.data.toList := by
        rw [← Go.Lib.toList_data, ← Go.Lib.toList_data]
        simpa using hx
      rw [← e, has_put_same hM hk]
      simp
/-- A thing: its place, its shape, its block, its table, if that was asked for. -/
structure Th where
  i : Nat
  l : List Sec
  b : Nat
  p : Option Value
def Th.cells (x : Th) (v : Value) : Array Value := match x.p with
  | none => #[.int .i64 x.i, v, .int .u32 0, .int .i32 0, .int .u32 0, .pointer none]
  | some p => #[.int .i64 x.i, v, .int .u32 1, .int .i32 0, .int .u32 0, p]
structure ThAt (lo hi : Nat) (E : List Ent) (w : World) (x : Th) : Prop where
  obj : ∃ o m c, w.heap[x.b]? = some (.cells (x.cells (.slice o m c)) 114 (0, 0)) ∧ Held (fun w => IsSecs w (.slice o m c) x.l) lo hi w
  right : rightS x.l = true
  made : ∀ p, x.p = some p → ∃ e ∈ E, e.p = p ∧ e.l = x.l
theorem ThAt.g {S : Nat → Prop} {lo hi : Nat} {E : List Ent} {w w' : World} {x : Th} (h : ThAt lo hi E w x) (q : G S w w') (hS : ∀ i, S i → (i < lo ∨ hi ≤ i) ∧ i ≠ x.b) : ThAt lo hi E w' x := by
  obtain ⟨o, m, c, h1, h2⟩ := h.obj
  exact ⟨⟨o, m, c, q.obj (fun hs => (hS _ hs).2 rfl) h1, q.held h2 (fun i h3 h4 hs => by have := (hS i hs).1; omega)⟩, h.right, h.made⟩
theorem ThAt.moreE {lo hi : Nat} {E E' : List Ent} {w : World} {x : Th} (h : ThAt lo hi E w x) (hE : ∀ e ∈ E, e ∈ E') : ThAt lo hi E' w x :=
  ⟨h.obj, h.right, fun p hp => let ⟨e, h1, h2⟩ := h.made p hp; ⟨e, hE e h1, h2⟩⟩
/-- What of a board never turns. -/
structure Bp where
  b : Nat
  lo : Nat
  hi : Nat
  c : Nat
  bm : Nat
  base : Nat
  mw : Nat
  mt : Nat
  top : Nat
  wv : Value
  tv : Value
  fv : Value
  d : Dk
  bw : List Nat
  bt : List Nat
/-- The blocks of a board that turn. -/
def Bp.S (P : Bp) (i : Nat) : Prop := i = P.c ∨ i = P.bm ∨ i ∈ P.bw ++ P.bt
/-- A board in memory. -/
structure BoardM (P : Bp) (w : World) (n : Nat) (E : List Ent) (X : List Th) : Prop where
  obj : w.heap[P.b]? = some (.cells #[P.wv, P.tv, P.fv, .pointer (some ⟨P.c, 0, none⟩), .map (some P.mw), .map (some P.mt)] 99 (0, 0))
  dk : Held (fun w => IsDk w P.wv P.tv P.fv P.d) P.lo P.hi w
  right : rightD P.d = true
  cache : CacheC CTab w P.c P.bm P.base n E
  wm : ThMap w P.mw (P.d.ws.map (·.n)) P.bw
  tm : ThMap w P.mt (P.d.ts.map (·.n)) P.bt
  lohi : P.lo ≤ P.hi
  hibm : P.hi ≤ P.bm
  bamw : P.base ≤ P.mw
  mwmt : P.mw < P.mt
  mtb : P.mt < P.b
  btop : P.b < P.top
  top : P.top ≤ w.heap.size
  bX : X.map (·.b) = P.bw ++ P.bt
  blt : ∀ x ∈ X, P.b < x.b ∧ x.b < P.top
  bap : X.Pairwise (fun x y => x.b ≠ y.b)
  ents : ∀ e ∈ E, P.top ≤ e.b
  things : ∀ x ∈ X, ThAt P.lo P.hi E w x
  xw : ∀ (i : Nat) r, P.d.ws[i]? = some r → ∃ x, X[i]? = some x ∧ x.i = i ∧ x.l = r.l
  xt : ∀ (i : Nat) r, P.d.ts[i]? = some r → ∃ x, X[P.d.ws.length + i]? = some x ∧ x.i = i ∧ x.l = r.l
  wl : P.bw.length = P.d.ws.length
  tl : P.bt.length = P.d.ts.length
  cnt : n = (X.filter (fun x => x.p.isSome)).length
  few : E.length ≤ n
section
variable {P : Bp} {w w' : World} {n : Nat} {E : List Ent} {X : List Th}
theorem BoardM.xlen (h : BoardM P w n E X) : X.length = P.d.ws.length + P.d.ts.length := by
  have := congrArg List.length h.bX
  simp [h.wl, h.tl] at this
  exact this
theorem right_few {d : Dk} (h : rightD d = true) : d.ws.length ≤ 8 ∧ d.ts.length ≤ 4 := by
  unfold rightD at h
  simp only [Bool.and_eq_true, decide_eq_true_eq] at h
  exact ⟨h.1.1.1.1, h.1.1.1.2⟩
theorem BoardM.n12 (h : BoardM P w n E X) : n ≤ 12 := by
  have h1 := h.xlen
  have h2 := right_few h.right
  have h3 := List.length_filter_le (fun x : Th => x.p.isSome) X
  have h4 := h.cnt
  omega
theorem BoardM.inS (h : BoardM P w n E X) : ∀ i, P.S i → i = P.c ∨ i = P.bm ∨ ∃ x ∈ X, x.b = i := fun i hi => by
  rcases hi with h1 | h1 | h1
  · exact .inl h1
  · exact .inr (.inl h1)
  · rw [← h.bX] at h1
    obtain ⟨x, hx, e⟩ := List.mem_map.1 h1
    exact .inr (.inr ⟨x, hx, e⟩)
theorem BoardM.sLow (h : BoardM P w n E X) : ∀ i, P.S i → P.hi ≤ i ∧ i < P.top := fun i hi => by
  have h1 := h.cache.lt
  have h2 := h.cache.lb
  have h3 := h.hibm
  have h4 := h.bamw
  have h5 := h.mwmt
  have h6 := h.mtb
  have h7 := h.btop
  rcases h.inS i hi with rfl | rfl | ⟨x, hx, rfl⟩
  · omega
  · omega
  · have := h.blt x hx; omega
theorem BoardM.keepG {S : Nat → Prop} (h : BoardM P w n E X) (q : G S w w') (hS : ∀ i, S i → i < P.lo) : BoardM P w' n E X := by
  have h1 := h.cache.lt
  have h2 := h.cache.lb
  have h3 := h.hibm
  have h4 := h.bamw
  have h5 := h.mwmt
  have h6 := h.mtb
  have h7 := h.btop
  have h8 := h.lohi
  have no : ∀ i, P.lo ≤ i → ¬ S i := fun i hi hs => by have := hS i hs; omega
  exact ⟨q.obj (no _ (by omega)) h.obj, q.held h.dk (fun i h1 _ => no i h1), h.right, CacheM.g h.cache q (fun i hi => by have := hS i hi; omega),
    h.wm.g q (no _ (by omega)), h.tm.g q (no _ (by omega)), h.lohi, h.hibm, h.bamw, h.mwmt, h.mtb, h.btop, Nat.le_trans h.top q.size, h.bX, h.blt, h.bap, h.ents,
    fun x hx => (h.things x hx).g q (fun i hi => by have := hS i hi; have := h.blt x hx; omega), h.xw, h.xt, h.wl, h.tl, h.cnt, h.few⟩
theorem BoardM.keepB (h : BoardM P w n E X) (q : B w w') : BoardM P w' n E X := h.keepG (q.g (fun _ => False)) (fun _ h => h.elim)
theorem filter_set : ∀ (X : List Th) (k : Nat) (x y : Th), X[k]? = some x → x.p.isSome = false → y.p.isSome = true → ((X.set k y).filter (fun x => x.p.isSome)).length = (X.filter (fun x => x.p.isSome)).length + 1
  | [], _, _, _, h, _, _ => by simp at h
  | z :: X, 0, x, y, h, hx, hy => by
    obtain rfl : z = x := by simpa using h
    rw [List.set_cons_zero, List.filter_cons, List.filter_cons]
    simp [hx, hy]
  | z :: X, k + 1, x, y, h, hx, hy => by
    have ih := filter_set X k x y (by simpa using h) hx hy
    rw [List.set_cons_succ, List.filter_cons, List.filter_cons]
    split
    · simp [ih]
    · exact ih
theorem map_b_set : ∀ (X : List Th) (k : Nat) (x y : Th), X[k]? = some x → y.b = x.b → (X.set k y).map (·.b) = X.map (·.b)
  | [], _, _, _, h, _ => by simp at h
  | z :: X, 0, x, y, h, hy => by
    obtain rfl : z = x := by simpa using h
    simp [hy]
  | z :: X, k + 1, x, y, h, hy => by
    have ih := map_b_set X k x y (by simpa using h) hy
    simp [ih]
theorem mem_set_or {X : List Th} {k : Nat} {y z : Th} (h : z ∈ X.set k y) : z = y ∨ ∃ j, j ≠ k ∧ X[j]? = some z := by
  obtain ⟨j, hj⟩ := List.getElem?_of_mem h
  by_cases e : k = j
  · subst e
    rw [List.getElem?_set] at hj
    simp only [if_true] at hj
    split at hj
    · exact .inl (Option.some.inj hj).symm
    · cases hj
  · rw [List.getElem?_set_ne e] at hj
    exact .inr ⟨j, fun e' => e e'.symm, hj⟩
theorem pair_ne {X : List Th} (h : X.Pairwise (fun x y => x.b ≠ y.b)) : ∀ {i j : Nat} {x y : Th}, X[i]? = some x → X[j]? = some y → i ≠ j → x.b ≠ y.b := by
  induction X with
  | nil => intro i j x y hx; simp at hx
  | cons z X ih =>
    rw [List.pairwise_cons] at h
    intro i j x y hx hy hij
    match i, j with
    | 0, 0 => exact absurd rfl hij
    | 0, j + 1 =>
      obtain rfl : z = x := by simpa using hx
      exact h.1 y (List.mem_of_getElem? (by simpa using hy))
    | i + 1, 0 =>
      obtain rfl : z = y := by simpa using hy
      exact fun e => h.1 x (List.mem_of_getElem? (by simpa using hx)) e.symm
    | i + 1, j + 1 => exact ih h.2 (by simpa using hx) (by simpa using hy) (by omega)
/-- A thing's table is made. -/
theorem BoardM.made {k : Nat} {x : Th} {e0 : Ent} {E' : List Ent} {o : Option Addr} {m cp : Nat} (h : BoardM P w n E X) (hx : X[k]? = some x) (hxp : x.p = none) (q : G (fun i => i = P.c ∨ i = P.bm ∨ i = x.b) w w')
    (hob : w'.heap[x.b]? = some (.cells #[.int .i64 x.i, .slice o m cp, .int .u32 1, .int .i32 0, .int .u32 0, e0.p] 114 (0, 0))) (hsec : Held (fun w => IsSecs w (.slice o m cp) x.l) P.lo P.hi w)
    (hC : CacheC CTab w' P.c P.bm P.base (n + 1) E') (he : e0 ∈ E') (hel : e0.l = x.l) (hE : E' = E ∨ (∀ e ∈ E, e.l ≠ x.l) ∧ w.heap.size ≤ e0.b ∧ E' = E ++ [e0]) :
    BoardM P w' (n + 1) E' (X.set k { x with p := some e0.p }) := by
  have h1 := h.cache.lt
  have h2 := h.cache.lb
  have h3 := h.hibm
  have h4 := h.bamw
  have h5 := h.mwmt
  have h6 := h.mtb
  have h7 := h.btop
  have h8 := h.lohi
  have hxm := List.mem_of_getElem? hx
  have hxb := h.blt x hxm
  have hEE : ∀ e ∈ E, e ∈ E' := fun e h9 => by
    rcases hE with rfl | ⟨_, _, rfl⟩
    · exact h9
    · exact List.mem_append_left _ h9
  have no : ∀ i, (i < P.hi ∨ (P.base ≤ i ∧ i ≤ P.b)) → ¬ (i = P.c ∨ i = P.bm ∨ i = x.b) := fun i hi hs => by
    rcases hs with rfl | rfl | rfl <;> omega
  refine ⟨q.obj (no _ (by omega)) h.obj, q.held h.dk (fun i _ h9 => no i (by omega)), h.right, hC, h.wm.g q (no _ (by omega)), h.tm.g q (no _ (by omega)), h.lohi, h.hibm, h.bamw, h.mwmt, h.mtb, h.btop, Nat.le_trans h.top q.size,
    (map_b_set X k x _ hx (by rfl)).trans h.bX, fun z hz => ?_, ?_, fun e he => ?_, fun z hz => ?_, fun i r hr => ?_, fun i r hr => ?_, h.wl, h.tl, ?_, ?_⟩
  · rcases mem_set_or hz with rfl | ⟨j, _, hj⟩
    · exact hxb
    · exact h.blt z (List.mem_of_getElem? hj)
  · have e := (map_b_set X k x { x with p := some e0.p } hx (by rfl))
    have hp := h.bap
    have a1 : (X.map (·.b)).Pairwise (fun a b => a ≠ b) := List.pairwise_map.2 hp
    rw [← e] at a1
    exact List.pairwise_map.1 a1
  · rcases hE with rfl | ⟨_, h9, rfl⟩
    · exact h.ents e he
    · rcases List.mem_append.1 he with he | he
      · exact h.ents e he
      · obtain rfl := List.mem_singleton.1 he
        exact Nat.le_trans h.top h9
  · rcases mem_set_or hz with rfl | ⟨j, hj, hz'⟩
    · exact ⟨⟨o, m, cp, hob, q.held hsec (fun i _ h9 => no i (by omega))⟩, (h.things x hxm).right, fun p hp => ⟨e0, he, Option.some.inj hp, hel⟩⟩
    · have hzm := List.mem_of_getElem? hz'
      refine ((h.things z hzm).g q (fun i hi => ?_)).moreE hEE
      have hzb := h.blt z hzm
      have hne := pair_ne h.bap hz' hx hj
      rcases hi with rfl | rfl | rfl
      · omega
      · omega
      · exact ⟨by omega, fun e => hne e.symm⟩
  · obtain ⟨y, hy, hy1, hy2⟩ := h.xw i r hr
    by_cases e : k = i
    · subst e
      obtain rfl : x = y := Option.some.inj (hx.symm.trans hy)
      have hk : k < X.length := (List.getElem?_eq_some_iff.1 hx).1
      exact ⟨_, List.getElem?_set_self hk, hy1, hy2⟩
    · exact ⟨y, (List.getElem?_set_ne e).trans hy, hy1, hy2⟩
  · obtain ⟨y, hy, hy1, hy2⟩ := h.xt i r hr
    by_cases e : k = P.d.ws.length + i
    · subst e
      obtain rfl : x = y := Option.some.inj (hx.symm.trans hy)
      have hk := (List.getElem?_eq_some_iff.1 hx).1
      exact ⟨_, List.getElem?_set_self hk, hy1, hy2⟩
    · exact ⟨y, (List.getElem?_set_ne e).trans hy, hy1, hy2⟩
  · rw [filter_set X k x _ hx (by rw [hxp]; rfl) rfl, ← h.cnt]
  · have := h.few
    rcases hE with rfl | ⟨_, _, rfl⟩
    · omega
    · simp; omega
end
end Go.Proofs.Ytkhaephmpifcmaa

namespace Go.Proofs.Ytkhaephmpifcmaa
open Go.RowKit
set_option linter.unusedVariables false
theorem B.map {a w : World} (h : B a w) (es : Array MapEntry) (k : Nat) : B a (w.alloc (.map es k)) := ⟨h.below.alloc h.below.size _⟩
theorem new_at (T : World → Value → List (Int × Int) → Prop) (w : World) : CacheC T ((w.alloc (.map #[] 0)).alloc (.cells #[.int .i64 0, .int .i64 0, .int .i32 0, .int .u32 0, .map (some w.heap.size)] 147)) (w.heap.size + 1) w.heap.size (w.heap.size + 2) 0 [] := by
  have o := obj_new (w.alloc (.map #[] 0)) (.cells #[.int .i64 0, .int .i64 0, .int .i32 0, .int .u32 0, .map (some w.heap.size)] 147)
  have e : (w.alloc (.map #[] 0)).heap.size = w.heap.size + 1 := by simp
  rw [e] at o
  refine ⟨o, ⟨_, (World.ownsMap_made w Try.prog 9 ptrElem).alloc _, fun l => rfl⟩, by omega, by omega, by simp, fun _ h => (by cases h), List.Pairwise.nil⟩
set_option maxRecDepth 100000 in
set_option maxHeartbeats 1600000 in
theorem cnew_any (T : World → Value → List (Int × Int) → Prop) (w : World) : Calls Try.prog 36 #[] w fun e w' => ∃ c bm base, e = .returned (.pointer (some ⟨c, 0, none⟩)) ∧ CacheC T w' c bm base 0 [] ∧ w.heap.size ≤ bm ∧ w'.heap.size = base ∧ B w w' := by
  have hmm := @run_makeMap Try.prog
  have hC := new_at T w
  have hB : B w ((w.alloc (.map #[] 0)).alloc (.cells #[.int .i64 0, .int .i64 0, .int .i32 0, .int .u32 0, .map (some w.heap.size)] 147)) := ((B.refl w).map _ _).alloc _ _
  have hs : ((w.alloc (.map #[] 0)).alloc (.cells #[.int .i64 0, .int .i64 0, .int .i32 0, .int .u32 0, .map (some w.heap.size)] 147)).heap.size = w.heap.size + 2 := by simp
  have HC := Lib.hid hC
  have HB := Lib.hid hB
  have HS := Lib.hid hs
  clear hC hB hs
  go_enter Try.func36, Try.ntmps36
  go_wp2
  go_ret
  exact ⟨_, _, _, rfl, HC.out, Nat.le_refl _, HS.out, HB.out⟩
end Go.Proofs.Ytkhaephmpifcmaa

namespace Go.Proofs.Ytkhaephmpifcmaa
open Go.RowKit
theorem IsDk.forms {w : World} {wv tv fv : Value} {d : Dk} (h : IsDk w wv tv fv d) : ∃ ao ac bo bc co cc, wv = .slice ao d.ws.length ac ∧ tv = .slice bo d.ts.length bc ∧ fv = .slice co d.fs.length cc := by
  obtain ⟨ao, ac, h1⟩ := h.ws.form
  obtain ⟨bo, bc, h2⟩ := h.ts.form
  obtain ⟨co, cc, h3⟩ := h.fs.form
  exact ⟨ao, ac, bo, bc, co, cc, h1, h2, h3⟩
theorem named_yes {ws : List Wr} {s : ByteArray} {i : Nat} (hi : i < ws.length) (h : ((ws[i]).n.toList == s.toList) = true) : namedW ws s = true := List.any_eq_true.2 ⟨_, List.getElem_mem hi, h⟩
theorem named_no {ws : List Wr} {s : ByteArray} (h : ∀ i (hi : i < ws.length), ((ws[i]).n.toList == s.toList) = false) : namedW ws s = false := by
  refine List.any_eq_false.2 fun x hx => ?_
  obtain ⟨i, hi, rfl⟩ := List.getElem_of_mem hx
  rw [h i hi]
  decide
end Go.Proofs.Ytkhaephmpifcmaa

namespace Go.Proofs.Ytkhaephmpifcmaa
open Go.RowKit
set_option linter.unusedVariables false
set_option maxRecDepth 100000 in
set_option maxHeartbeats 4000000 in
theorem copied_any (wv tv fv : Value) (d : Dk) (w : World) (h : IsDk w wv tv fv d) (hw100 : ∀ r ∈ d.ws, r.l.length ≤ 1000000) (ht100 : ∀ r ∈ d.ts, r.l.length ≤ 1000000) (hw9 : d.ws.length ≤ 1000000) (ht9 : d.ts.length ≤ 1000000) (hf9 : d.fs.length ≤ 1000000) :
    Calls Try.prog 35 #[.agg #[wv, tv, fv]] w fun e w' => ∃ o1 c1 o2 c2 o3 c3 ss tt, e = .returned (.agg #[.slice o1 d.ws.length c1, .slice o2 d.ts.length c2, .slice o3 d.fs.length c3]) ∧ OwnD w' w.heap.size (.slice o1 d.ws.length c1) (.slice o2 d.ts.length c2) (.slice o3 d.fs.length c3) d ss tt ∧ B w w' := by
  obtain ⟨ao, ac, bo, bc, co, cc, rfl, rfl, rfl⟩ := h.forms
  obtain ⟨vsw, hvw1, hvw2, hvw3⟩ := recs_vs h.ws
  obtain ⟨vst, hvt1, hvt2, hvt3⟩ := recs_vs h.ts
  have hwi : ∀ r ∈ d.ws, ∀ s ∈ r.l, s.I := fun r hr => by
    obtain ⟨i, hi, e⟩ := List.getElem_of_mem hr
    have := hvw2 i r _ (by rw [List.getElem?_eq_getElem hi, e]) (List.getElem?_eq_getElem (by omega))
    exact secs_I this
  have hti : ∀ r ∈ d.ts, ∀ s ∈ r.l, s.I := fun r hr => by
    obtain ⟨i, hi, e⟩ := List.getElem_of_mem hr
    have := hvt2 i r _ (by rw [List.getElem?_eq_getElem hi, e]) (List.getElem?_eq_getElem (by omega))
    exact secs_I this
  have hone1 := vs_one hvw1 hvw2
  have hone2 := vs_one hvt1 hvt2
  have hfs := h.fs
  obtain ⟨XW, hXW⟩ : ∃ XW, flatR d.ws vsw = XW := ⟨_, rfl⟩
  obtain ⟨XT, hXT⟩ : ∃ XT, flatR d.ts vst = XT := ⟨_, rfl⟩
  obtain ⟨XF, hXF⟩ : ∃ XF, flatF d.fs = XF := ⟨_, rfl⟩
  have qa : B w ((w.alloc (.cells #[.slice ao d.ws.length ac, .slice bo d.ts.length bc, .slice co d.fs.length cc] 67)).alloc (.cells #[.slice none 0 0, .slice none 0 0, .slice none 0 0] 67)) := ((B.refl w).alloc _ _).alloc _ _
  have oD : ((w.alloc (.cells #[.slice ao d.ws.length ac, .slice bo d.ts.length bc, .slice co d.fs.length cc] 67)).alloc (.cells #[.slice none 0 0, .slice none 0 0, .slice none 0 0] 67)).heap[w.heap.size]? = some (.cells #[.slice ao d.ws.length ac, .slice bo d.ts.length bc, .slice co d.fs.length cc] 67 (0, 0)) := obj_past (obj_new w _) _
  have oR : ((w.alloc (.cells #[.slice ao d.ws.length ac, .slice bo d.ts.length bc, .slice co d.fs.length cc] 67)).alloc (.cells #[.slice none 0 0, .slice none 0 0, .slice none 0 0] 67)).heap[w.heap.size + 1]? = some (.cells #[.slice none 0 0, .slice none 0 0, .slice none 0 0] 67 (0, 0)) := by
    have := obj_new (w.alloc (.cells #[.slice ao d.ws.length ac, .slice bo d.ts.length bc, .slice co d.fs.length cc] 67)) (.cells #[.slice none 0 0, .slice none 0 0, .slice none 0 0] 67)
    simpa using this
  have hsz : ((w.alloc (.cells #[.slice ao d.ws.length ac, .slice bo d.ts.length bc, .slice co d.fs.length cc] 67)).alloc (.cells #[.slice none 0 0, .slice none 0 0, .slice none 0 0] 67)).heap.size = w.heap.size + 2 := by simp
  go_enter Try.func35, Try.ntmps35
  go_wp2_with fail
  generalize ((w.alloc (.cells #[.slice ao d.ws.length ac, .slice bo d.ts.length bc, .slice co d.fs.length cc] 67)).alloc (.cells #[.slice none 0 0, .slice none 0 0, .slice none 0 0] 67)) = U0 at *
  generalize hD : w.heap.size = D at *
  generalize hR : D + 1 = R at *
  obtain ⟨nw, hnw⟩ : ∃ nw, d.ws.length = nw := ⟨_, rfl⟩
  obtain ⟨nt, hnt⟩ : ∃ nt, d.ts.length = nt := ⟨_, rfl⟩
  obtain ⟨nf, hnf⟩ : ∃ nf, d.fs.length = nf := ⟨_, rfl⟩

  rw [hnw, hnt, hnf] at oD
  have cW := fun w' (q : B U0 w') => lware_any (.slice ao d.ws.length ac) d.ws vsw w' (hvw3.keepB (qa.trans q)) hvw1 hone1 hw9
  have cT := fun w' (q : B U0 w') => ltip_any (.slice bo d.ts.length bc) d.ts vst w' (hvt3.keepB (qa.trans q)) hvt1 hone2 ht9
  have cF := fun w' (q : B U0 w') => lfill_any (.slice co d.fs.length cc) d.fs w' (hfs.keepB (qa.trans q)) hf9
  rw [hnw, hXW] at cW
  rw [hnt, hXT] at cT
  rw [hnf, hXF] at cF
  obtain ⟨k, hkk⟩ : ∃ k, U0.heap.size = k := ⟨_, rfl⟩
  have hk : k ≤ U0.heap.size := Nat.le_of_eq hkk.symm
  have hwk : D ≤ k := by omega
  have hRk : R < k := by omega
  have HE := Lib.hid (And.intro hwi (And.intro hti (And.intro hvw1 (And.intro hvt1 (And.intro hvw2 hvt2)))))
  rw [hnw, hnt, hnf]
  have HN := Lib.hid (And.intro hnw (And.intro hnt (And.intro hnf (And.intro hXW (And.intro hXT (And.intro hXF (And.intro hw9 (And.intro ht9 hf9))))))))
  have k0 : U0.cell? ⟨D, 0, none⟩ = some (.slice ao nw ac) := obj_cell (w := U0) oD 0
  have k1 : U0.cell? ⟨D, 1, none⟩ = some (.slice bo nt bc) := obj_cell (w := U0) oD 1
  have k2 : U0.cell? ⟨D, 2, none⟩ = some (.slice co nf cc) := obj_cell (w := U0) oD 2
  replace oR : U0.heap[R]? = some (.cells #[.slice none 0 0, .slice none 0 0, .slice none 0 0] 67 (0, 0)) := oR
  have b0 : B w U0 := qa
  clear hvw3 hvt3 hone1 hone2 hfs h hwi hti hvw1 hvt1 hvw2 hvt2 hw9 ht9 hf9 hnw hnt hnf hXW hXT hXF qa oD hsz
  refine wp_region_noPanic ?_
  refine wp_region_slots [(0, 6), (1, 7), (2, 8), (3, 9), (4, 10), (5, 11), (6, 12), (7, 13), (8, 14), (9, 15), (10, 3)] [(11, 2)] [0, 1, 2, 0, 8, 20, 0, 64, 160, 292, 0, 2047] [0, 1, 2, 0, 8, 16, 0, 64, 128, 292, 0, 1536] [0, 1, 3, 0, 8, 31, 0, 64, 255, 511, 0, 2047] 2047 [(fun v _ => v = .pointer (some ⟨D, 0, none⟩)), (fun v _ => v = .slice ao nw ac), (OwnV k 58 5 nw XW), (fun v _ => v = .pointer (some ⟨D, 1, none⟩)), (fun v _ => v = .slice bo nt bc), (OwnV k 116 5 nt XT), (fun v _ => v = .pointer (some ⟨D, 2, none⟩)), (fun v _ => v = .slice co nf cc), (OwnV k 63 4 nf XF), (OwnA k nw nt nf XW XT XF), (BoxV k)] (by kernel_rfl) (by kernel_rfl) (fun _ _ _ _ h => h) ⟨slot_val _, slot_val _, slot_own _ _ _ _ _, slot_val _, slot_val _, slot_own _ _ _ _ _, slot_val _, slot_val _, slot_own _ _ _ _ _, slot_owna _ _ _ _ _ _ _, slot_box _, trivial⟩ ⟨?_, ?_, ?_, ?_, ?_, ?_, ?_, ?_, ?_, ?_, ?_, trivial⟩ ?_
  · intro f w' hf hB
    clear hf
    refine slot_op rfl (fun _ => rfl) (fun T hT K hK => ?_)
    simp only [putsL, List.set_cons_zero, List.set_cons_succ] at hT
    subst hT
    go_simp
    exact hK.out _ _ rfl (B.refl _)
  · intro f w' hf hB
    have h0 := hf (0, 6) (by simp) (by rfl)
    clear hf
    have e0 : f 0 = _ := h0
    have kk := hB.keep k0
    refine slot_op rfl (fun _ => rfl) (fun T hT K hK => ?_)
    simp only [putsL, List.set_cons_zero, List.set_cons_succ, e0] at hT
    subst hT
    go_simp
    exact hK.out _ _ rfl (B.refl _)
  · intro f w' hf hB
    have h1 := hf (1, 7) (by simp) (by rfl)
    clear hf
    have e1 : f 1 = _ := h1
    refine slot_op rfl (fun _ => rfl) (fun T hT K hK => ?_)
    simp only [putsL, List.set_cons_zero, List.set_cons_succ, e1] at hT
    subst hT
    go_simp
    (with_reducible refine (cW _ hB).mono ?_)
    rintro e w2 ⟨o, c, rfl, hown, q⟩
    exact hK.out _ _ ⟨o, c, rfl, own_low hown (Nat.le_trans hk (hB.below.size))⟩ q
  · intro f w' hf hB
    clear hf
    refine slot_op rfl (fun _ => rfl) (fun T hT K hK => ?_)
    simp only [putsL, List.set_cons_zero, List.set_cons_succ] at hT
    subst hT
    go_simp
    exact hK.out _ _ rfl (B.refl _)
  · intro f w' hf hB
    have h3 := hf (3, 9) (by simp) (by rfl)
    clear hf
    have e3 : f 3 = _ := h3
    have kk := hB.keep k1
    refine slot_op rfl (fun _ => rfl) (fun T hT K hK => ?_)
    simp only [putsL, List.set_cons_zero, List.set_cons_succ, e3] at hT
    subst hT
    go_simp
    exact hK.out _ _ rfl (B.refl _)
  · intro f w' hf hB
    have h4 := hf (4, 10) (by simp) (by rfl)
    clear hf
    have e4 : f 4 = _ := h4
    refine slot_op rfl (fun _ => rfl) (fun T hT K hK => ?_)
    simp only [putsL, List.set_cons_zero, List.set_cons_succ, e4] at hT
    subst hT
    go_simp
    (with_reducible refine (cT _ hB).mono ?_)
    rintro e w2 ⟨o, c, rfl, hown, q⟩
    exact hK.out _ _ ⟨o, c, rfl, own_low hown (Nat.le_trans hk (hB.below.size))⟩ q
  · intro f w' hf hB
    clear hf
    refine slot_op rfl (fun _ => rfl) (fun T hT K hK => ?_)
    simp only [putsL, List.set_cons_zero, List.set_cons_succ] at hT
    subst hT
    go_simp
    exact hK.out _ _ rfl (B.refl _)
  · intro f w' hf hB
    have h6 := hf (6, 12) (by simp) (by rfl)
    clear hf
    have e6 : f 6 = _ := h6
    have kk := hB.keep k2
    refine slot_op rfl (fun _ => rfl) (fun T hT K hK => ?_)
    simp only [putsL, List.set_cons_zero, List.set_cons_succ, e6] at hT
    subst hT
    go_simp
    exact hK.out _ _ rfl (B.refl _)
  · intro f w' hf hB
    have h7 := hf (7, 13) (by simp) (by rfl)
    clear hf
    have e7 : f 7 = _ := h7
    refine slot_op rfl (fun _ => rfl) (fun T hT K hK => ?_)
    simp only [putsL, List.set_cons_zero, List.set_cons_succ, e7] at hT
    subst hT
    go_simp
    (with_reducible refine (cF _ hB).mono ?_)
    rintro e w2 ⟨o, c, rfl, hown, q⟩
    exact hK.out _ _ ⟨o, c, rfl, own_low hown (Nat.le_trans hk (hB.below.size))⟩ q
  · intro f w' hf hB
    have h2 := hf (2, 8) (by simp) (by rfl)
    have h5 := hf (5, 11) (by simp) (by rfl)
    have h8 := hf (8, 14) (by simp) (by rfl)
    clear hf
    obtain ⟨o1, c1, e2, r1⟩ := h2
    obtain ⟨o2, c2, e5, r2⟩ := h5
    obtain ⟨o3, c3, e8, r3⟩ := h8
    refine slot_op rfl (fun _ => rfl) (fun T hT K hK => ?_)
    simp only [putsL, List.set_cons_zero, List.set_cons_succ, e2, e5, e8] at hT
    subst hT
    go_simp
    exact hK.out _ _ ⟨o1, c1, o2, c2, o3, c3, rfl, r1, r2, r3⟩ (B.refl _)
  · intro f w' hf hB
    clear hf
    refine slot_op rfl (fun _ => rfl) (fun T hT K hK => ?_)
    simp only [putsL, List.set_cons_zero, List.set_cons_succ] at hT
    subst hT
    go_simp
    exact hK.out _ _ ⟨_, rfl, obj_new _ _, Nat.le_trans hk hB.below.size⟩ ((B.refl _).alloc _ _)
  · intro f w' hf hB T hT
    have h9 := hf (9, 15) (by simp)
    have h10 := hf (10, 3) (by simp)
    obtain ⟨o1, c1, o2, c2, o3, c3, e9, r1, r2, r3⟩ := h9
    obtain ⟨C, e10, oC, hkC⟩ := h10
    clear hf
    simp only [putsL, List.set_cons_zero, List.set_cons_succ, e9, e10] at hT
    subst hT
    have y0 := obj_cell oC 0
    have y1 := obj_cell oC 1
    have y2 := obj_cell oC 2
    have z0 := obj_free oC 0
    have z1 := obj_free oC 1
    have z2 := obj_free oC 2
    refine wpSeq_call rfl (by kernel_rfl) (fun K hK => ?_)
    go_simp
    refine hK.out _ _ trivial (fun _ => ?_)
    clear hK
    refine wpSeq_done ?_
    refine NoPanic.normal ?_
    have oC2 := obj_three oC (.slice o1 nw c1) (.slice o2 nt c2) (.slice o3 nf c3)
    have g2 := g_three w' C (.slice o1 nw c1) (.slice o2 nt c2) (.slice o3 nf c3)
    have s1 := own_objG r1 oC (by decide) g2
    have s2 := own_objG r2 oC (by decide) g2
    have s3 := own_objG r3 oC (by decide) g2
    have b2 := g2.b hB (fun i hi => by subst hi; rw [hkk]; exact hkC)
    have oR2 := b2.obj oR
    have HK := hkC
    clear r1 r2 r3 oC g2 y0 y1 y2 z0 z1 z2 hB e9 e10 k0 k1 k2 hkC
    generalize ((w'.setCell ⟨C, 0, none⟩ (.slice o1 nw c1)).setCell ⟨C, 1, none⟩ (.slice o2 nt c2)).setCell ⟨C, 2, none⟩ (.slice o3 nf c3) = W1 at *
    obtain ⟨hwi, hti, hvw1, hvt1, hvw2, hvt2⟩ := HE.out
    obtain ⟨hnw, hnt, hnf, hXW, hXT, hXF, hw9, ht9, hf9⟩ := HN.out
    have bw1 : B w W1 := b0.trans b2
    have hkC : k ≤ C := HK
    have yC0 := obj_cell oC2 0
    rw [← hXW] at s1
    clear HE HN cW cT cF hXW b0 b2 hkk oR HK
    go_wp2_with fail
    go_loopw [19] (fun iv wr => ∃ (i : Nat) (ss : List Value), i ≤ nw ∧ iv = .int .i64 i ∧ LpAt d.ws w wr W1 k C nw (.slice o1 nw c1) 58 i ss) (fun iv _ => nw + 1 - (intOf iv).toNat)
    case atStart => exact ⟨0, vsw, Nat.zero_le _, rfl, LpAt.start hvw1 hvw2 bw1 s1⟩
    case round =>
      obtain ⟨i, ss, hi, rfl, hLp⟩ := hrel
      obtain ⟨wl, rfl⟩ : ∃ wl : World, wl = wr := ⟨_, rfl⟩
      have oCl := hLp.g.obj (fun h => h.2 rfl) oC2
      have yC := obj_cell oCl 0
      by_cases hl : i < nw
      · have hlB : decide ((i : Int) < (nw : Int)) = true := decide_eq_true (by omega)
        have hlN : decide (i < nw) = true := decide_eq_true hl
        have hlI : (i : Int) < (nw : Int) := by omega
        have hi0 : (0 : Int) ≤ (i : Int) := by omega
        have wk1 : IntKind.i64.wrap ((i : Int) + 1) = (i : Int) + 1 := by rw [IntKind.wrap_i64]; omega
        obtain ⟨r, u, hr, hu, hyc⟩ := hLp.at_ hnw hl
        have hrow := hLp.row
        obtain ⟨g, cp, hsl, hgk, hglt⟩ := hrow.form (by omega)
        simp only [Value.slice.injEq, true_and] at hsl
        obtain ⟨rfl, rfl⟩ := hsl
        have yc : wl.cell? ⟨g, i * 5 + 4, none⟩ = some u := hyc g rfl
        have hsu : IsSecs wl u r.l := hLp.old_at hr hu
        obtain ⟨uo, uc, rfl⟩ := hsu.formL
        obtain ⟨un, hun⟩ : ∃ un, r.l.length = un := ⟨_, rfl⟩
        have cl := fun w' (q : B wl w') => lsec_any (.slice uo r.l.length uc) r.l w' (hsu.keepB q) (hw100 r (List.mem_of_getElem? hr))
        rw [hun] at cl yc hu
        have qd : B wl wl.drew := (B.refl wl).drew
        have hgC : ¬ g = C := fun e => by
          subst e
          exact farF2 oCl hrow (by decide) rfl
        have hgC' : ¬ C = g := fun e => hgC e.symm
        have hkl : k ≤ wl.heap.size := by have := obj_lt oCl; omega
        have HP := Lib.hid hLp
        have HN := Lib.hid (And.intro hun (And.intro hr hu))
        have HI := Lib.hid (And.intro hl hkl)
        clear hLp hyc hsu hun hr hu hrow hgk hglt hl hkl
        go_wp2_with fail
        refine wp_region_noPanic ?_
        refine wp_region_gate (S := fun w' => w'.cell? ⟨C, 0, none⟩ = some (.slice (some ⟨g, 0, none⟩) nw c1) ∧ w'.cell? ⟨g, i * 5 + 4, none⟩ = some (.slice uo un uc) ∧ B wl w') 12 [(0, 3), (1, 0), (2, 3), (3, 3), (4, 0), (5, 3), (6, 3), (7, 3), (8, 0), (9, 2), (10, 3), (11, 3), (12, 4)] [0, 1, 0, 0, 8, 0, 48, 64, 128, 256, 1023, 2047, 3071] [0, 1, 0, 0, 8, 0, 48, 64, 128, 256, 6, 1024, 2560] [0, 7170, 0, 0, 8144, 0, 0, 0, 7936, 0, 0, 0, 0] (by kernel_rfl) (by kernel_rfl) (fun _ _ _ _ _ h => h) ?_ (fun hH => ?_)
        · exact ⟨qd.keep yC, qd.keep yc, qd⟩
        refine wpSeqG_free (d := 22) (v := ?_) rfl rfl (by kernel_rfl) (fun w => ?_) ?_
        rotate_left
        · go_simp <;> with_reducible rfl
        dsimp only [List.set_cons_zero, List.set_cons_succ]
        refine wpSeqG_take (d := 23) (v := ?_) rfl rfl (by kernel_rfl) (fun w hS => ?_) ?_
        rotate_left
        · go_simp <;> with_reducible rfl
        dsimp only [List.set_cons_zero, List.set_cons_succ]
        refine wpSeqG_free (d := 24) (v := ?_) rfl rfl (by kernel_rfl) (fun w => ?_) ?_
        rotate_left
        · go_simp <;> with_reducible rfl
        dsimp only [List.set_cons_zero, List.set_cons_succ]
        refine wpSeqG_free (d := 25) (v := ?_) rfl rfl (by kernel_rfl) (fun w => ?_) ?_
        rotate_left
        · go_simp <;> with_reducible rfl
        dsimp only [List.set_cons_zero, List.set_cons_succ]
        refine wpSeqG_take (d := 26) (v := ?_) rfl rfl (by kernel_rfl) (fun w hS => ?_) ?_
        rotate_left
        · go_simp <;> with_reducible rfl
        dsimp only [List.set_cons_zero, List.set_cons_succ]
        refine wpSeqG_free (d := 27) (v := ?_) rfl rfl (by kernel_rfl) (fun w => ?_) ?_
        rotate_left
        · go_simp <;> with_reducible rfl
        dsimp only [List.set_cons_zero, List.set_cons_succ]
        refine wpSeqG_free (d := 28) (v := ?_) rfl rfl (by kernel_rfl) (fun w => ?_) ?_
        rotate_left
        · go_simp <;> with_reducible rfl
        dsimp only [List.set_cons_zero, List.set_cons_succ]
        refine wpSeqG_free (d := 29) (v := ?_) rfl rfl (by kernel_rfl) (fun w => ?_) ?_
        rotate_left
        · go_simp <;> with_reducible rfl
        dsimp only [List.set_cons_zero, List.set_cons_succ]
        refine wpSeqG_take (d := 30) (v := ?_) rfl rfl (by kernel_rfl) (fun w hS => ?_) ?_
        rotate_left
        · go_simp <;> with_reducible rfl
        dsimp only [List.set_cons_zero, List.set_cons_succ]
        refine wpSeqG_call rfl (by kernel_rfl) (fun K hK => ?_)
        go_simp
        (with_reducible refine (cl _ hH.2.2).mono ?_)
        rintro e w2 ⟨o9, c9, rfl, hown9, hq⟩
        refine hK.out _ _ ?_ (fun hH => ?_)
        · exact ⟨hq.keep hH.1, hq.keep hH.2.1, hH.2.2.trans hq⟩
        clear hK
        refine wpSeqG_free (d := 32) (v := ?_) rfl rfl (by kernel_rfl) (fun w => ?_) ?_
        rotate_left
        · go_simp <;> with_reducible rfl
        dsimp only [List.set_cons_zero, List.set_cons_succ]
        refine wpSeqG_free (d := 33) (v := ?_) rfl rfl (by kernel_rfl) (fun w => ?_) ?_
        rotate_left
        · go_simp <;> with_reducible rfl
        dsimp only [List.set_cons_zero, List.set_cons_succ]
        refine wpSeqG_gate rfl (by kernel_rfl) (fun K hK => ?_)
        have yy := hH.2.1
        have zz := (own_keepBx HP.out.row hH.2.2).frozenAt (i * 5 + 4)
        go_simp
        refine hK.out _ _ ?_
        clear hK
        refine wpSeqG_done ?_
        refine NoPanic.normal ?_
        all_goals
          obtain ⟨hun, hr, hu⟩ := HN.out
          have hG := HP.out.next hnw HI.out.2 hr hu HI.out.1 hH.2.2 hown9 hun (by decide) hgC (by rw [hD]; exact hwk)
          have HZ := Lib.hid (And.intro hG HI.out.1)
          clear hG HP HN HI hH hown9 hun hr hu
          generalize (w2.setCell ⟨g, i * 5 + 4, none⟩ (.slice o9 un c9)) = w9 at *
          go_wp2
          go_roundw
          case rel => exact ⟨i + 1, _, by have := HZ.out.2; omega, by go_num, HZ.out.1⟩
          case measure => have := HZ.out.2; simp [intOf]; omega
      · have hlB : decide ((i : Int) < (nw : Int)) = false := decide_eq_false (by omega)
        have hlN : decide (i < nw) = false := decide_eq_false hl
        obtain rfl : nw = i := by omega
        have oR3 := hLp.g.obj (fun h => by have := h.1; omega) oR2
        have HT := Lib.hid (And.intro hLp.row (And.intro hLp.len (And.intro (fun (j : Nat) (r : Rec) (u : Value) (h1 : d.ws[j]? = some r) (h2 : ss[j]? = some u) => hLp.new j r u (by have := (List.getElem?_eq_some_iff.1 h1).1; omega) h1 h2) (hLp.own (by decide) s3))))
        replace s2 : wl.ownsRow k 116 5 (.slice o2 nt c2) nt (flatR d.ts vst) := hLp.own (by decide) (by rw [hXT]; exact s2)
        have bw2 := hLp.bw
        have oC3 := oCl
        have yC1 := obj_cell oCl 1
        clear hLp s3 s1 bw1 oC2 oR2 oCl yC yC0 hvw1 hvw2
        obtain ⟨W2, rfl⟩ : ∃ W2 : World, W2 = wl := ⟨_, rfl⟩
        obtain ⟨ssw, rfl⟩ : ∃ s, s = ss := ⟨_, rfl⟩
        go_wp2_with fail
        clear hlB hlN hl hi
        go_loopw [38] (fun iv wr => ∃ (i : Nat) (ss : List Value), i ≤ nt ∧ iv = .int .i64 i ∧ LpAt d.ts w wr W2 k C nt (.slice o2 nt c2) 116 i ss) (fun iv _ => nt + 1 - (intOf iv).toNat)
        case atStart => exact ⟨0, vst, Nat.zero_le _, rfl, LpAt.start hvt1 hvt2 bw2 s2⟩
        case round =>
          obtain ⟨i, ss, hi, rfl, hLp⟩ := hrel
          obtain ⟨wl, rfl⟩ : ∃ wl : World, wl = wr := ⟨_, rfl⟩
          have oCl := hLp.g.obj (fun h => h.2 rfl) oC3
          have yC := obj_cell oCl 1
          by_cases hl : i < nt
          · have hlB : decide ((i : Int) < (nt : Int)) = true := decide_eq_true (by omega)
            have hlN : decide (i < nt) = true := decide_eq_true hl
            have hlI : (i : Int) < (nt : Int) := by omega
            have hi0 : (0 : Int) ≤ (i : Int) := by omega
            have wk1 : IntKind.i64.wrap ((i : Int) + 1) = (i : Int) + 1 := by rw [IntKind.wrap_i64]; omega
            obtain ⟨r, u, hr, hu, hyc⟩ := hLp.at_ hnt hl
            have hrow := hLp.row
            obtain ⟨g, cp, hsl, hgk, hglt⟩ := hrow.form (by omega)
            simp only [Value.slice.injEq, true_and] at hsl
            obtain ⟨rfl, rfl⟩ := hsl
            have yc : wl.cell? ⟨g, i * 5 + 4, none⟩ = some u := hyc g rfl
            have hsu : IsSecs wl u r.l := hLp.old_at hr hu
            obtain ⟨uo, uc, rfl⟩ := hsu.formL
            obtain ⟨un, hun⟩ : ∃ un, r.l.length = un := ⟨_, rfl⟩
            have cl := fun w' (q : B wl w') => lsec_any (.slice uo r.l.length uc) r.l w' (hsu.keepB q) (ht100 r (List.mem_of_getElem? hr))
            rw [hun] at cl yc hu
            have qd : B wl wl.drew := (B.refl wl).drew
            have hgC : ¬ g = C := fun e => by
              subst e
              exact farF2 oCl hrow (by decide) rfl
            have hgC' : ¬ C = g := fun e => hgC e.symm
            have hkl : k ≤ wl.heap.size := by have := obj_lt oCl; omega
            have HP := Lib.hid hLp
            have HN := Lib.hid (And.intro hun (And.intro hr hu))
            have HI := Lib.hid (And.intro hl hkl)
            clear hLp hyc hsu hun hr hu hrow hgk hglt hl hkl
            go_wp2_with fail
            refine wp_region_noPanic ?_
            refine wp_region_gate (S := fun w' => w'.cell? ⟨C, 1, none⟩ = some (.slice (some ⟨g, 0, none⟩) nt c2) ∧ w'.cell? ⟨g, i * 5 + 4, none⟩ = some (.slice uo un uc) ∧ B wl w') 12 [(0, 3), (1, 0), (2, 3), (3, 3), (4, 0), (5, 3), (6, 3), (7, 3), (8, 0), (9, 2), (10, 3), (11, 3), (12, 4)] [0, 1, 0, 0, 8, 0, 48, 64, 128, 256, 1023, 2047, 3071] [0, 1, 0, 0, 8, 0, 48, 64, 128, 256, 6, 1024, 2560] [0, 7170, 0, 0, 8144, 0, 0, 0, 7936, 0, 0, 0, 0] (by kernel_rfl) (by kernel_rfl) (fun _ _ _ _ _ h => h) ?_ (fun hH => ?_)
            · exact ⟨qd.keep yC, qd.keep yc, qd⟩
            refine wpSeqG_free (d := 41) (v := ?_) rfl rfl (by kernel_rfl) (fun w => ?_) ?_
            rotate_left
            · go_simp <;> with_reducible rfl
            dsimp only [List.set_cons_zero, List.set_cons_succ]
            refine wpSeqG_take (d := 42) (v := ?_) rfl rfl (by kernel_rfl) (fun w hS => ?_) ?_
            rotate_left
            · go_simp <;> with_reducible rfl
            dsimp only [List.set_cons_zero, List.set_cons_succ]
            refine wpSeqG_free (d := 43) (v := ?_) rfl rfl (by kernel_rfl) (fun w => ?_) ?_
            rotate_left
            · go_simp <;> with_reducible rfl
            dsimp only [List.set_cons_zero, List.set_cons_succ]
            refine wpSeqG_free (d := 44) (v := ?_) rfl rfl (by kernel_rfl) (fun w => ?_) ?_
            rotate_left
            · go_simp <;> with_reducible rfl
            dsimp only [List.set_cons_zero, List.set_cons_succ]
            refine wpSeqG_take (d := 45) (v := ?_) rfl rfl (by kernel_rfl) (fun w hS => ?_) ?_
            rotate_left
            · go_simp <;> with_reducible rfl
            dsimp only [List.set_cons_zero, List.set_cons_succ]
            refine wpSeqG_free (d := 46) (v := ?_) rfl rfl (by kernel_rfl) (fun w => ?_) ?_
            rotate_left
            · go_simp <;> with_reducible rfl
            dsimp only [List.set_cons_zero, List.set_cons_succ]
            refine wpSeqG_free (d := 47) (v := ?_) rfl rfl (by kernel_rfl) (fun w => ?_) ?_
            rotate_left
            · go_simp <;> with_reducible rfl
            dsimp only [List.set_cons_zero, List.set_cons_succ]
            refine wpSeqG_free (d := 48) (v := ?_) rfl rfl (by kernel_rfl) (fun w => ?_) ?_
            rotate_left
            · go_simp <;> with_reducible rfl
            dsimp only [List.set_cons_zero, List.set_cons_succ]
            refine wpSeqG_take (d := 49) (v := ?_) rfl rfl (by kernel_rfl) (fun w hS => ?_) ?_
            rotate_left
            · go_simp <;> with_reducible rfl
            dsimp only [List.set_cons_zero, List.set_cons_succ]
            refine wpSeqG_call rfl (by kernel_rfl) (fun K hK => ?_)
            go_simp
            (with_reducible refine (cl _ hH.2.2).mono ?_)
            rintro e w2 ⟨o9, c9, rfl, hown9, hq⟩
            refine hK.out _ _ ?_ (fun hH => ?_)
            · exact ⟨hq.keep hH.1, hq.keep hH.2.1, hH.2.2.trans hq⟩
            clear hK
            refine wpSeqG_free (d := 51) (v := ?_) rfl rfl (by kernel_rfl) (fun w => ?_) ?_
            rotate_left
            · go_simp <;> with_reducible rfl
            dsimp only [List.set_cons_zero, List.set_cons_succ]
            refine wpSeqG_free (d := 52) (v := ?_) rfl rfl (by kernel_rfl) (fun w => ?_) ?_
            rotate_left
            · go_simp <;> with_reducible rfl
            dsimp only [List.set_cons_zero, List.set_cons_succ]
            refine wpSeqG_gate rfl (by kernel_rfl) (fun K hK => ?_)
            have yy := hH.2.1
            have zz := (own_keepBx HP.out.row hH.2.2).frozenAt (i * 5 + 4)
            go_simp
            refine hK.out _ _ ?_
            clear hK
            refine wpSeqG_done ?_
            refine NoPanic.normal ?_
            all_goals
              obtain ⟨hun, hr, hu⟩ := HN.out
              have hG := HP.out.next hnt HI.out.2 hr hu HI.out.1 hH.2.2 hown9 hun (by decide) hgC (by rw [hD]; exact hwk)
              have HZ := Lib.hid (And.intro hG HI.out.1)
              clear hG HP HN HI hH hown9 hun hr hu
              generalize (w2.setCell ⟨g, i * 5 + 4, none⟩ (.slice o9 un c9)) = w9 at *
              go_wp2
              go_roundw
              case rel => exact ⟨i + 1, _, by have := HZ.out.2; omega, by go_num, HZ.out.1⟩
              case measure => have := HZ.out.2; simp [intOf]; omega
          · have hlB : decide ((i : Int) < (nt : Int)) = false := decide_eq_false (by omega)
            have hlN : decide (i < nt) = false := decide_eq_false hl
            obtain rfl : nt = i := by omega
            have oR4 := hLp.g.obj (fun h => by have := h.1; omega) oR3
            obtain ⟨t1, tl1, tn, t3⟩ := HT.out
            have hCR : ¬ C = R := by omega
            have hRC : ¬ R = C := by omega
            have gR := g_three wl R (.slice o1 nw c1) (.slice o2 nt c2) (.slice o3 nf c3)
            have oE := obj_three oR4 (.slice o1 nw c1) (.slice o2 nt c2) (.slice o3 nf c3)
            have hOwn : OwnD (((wl.setCell ⟨R, 0, none⟩ (.slice o1 nw c1)).setCell ⟨R, 1, none⟩ (.slice o2 nt c2)).setCell ⟨R, 2, none⟩ (.slice o3 nf c3)) k (.slice o1 nw c1) (.slice o2 nt c2) (.slice o3 nf c3) d ssw ss :=
              ⟨by rw [hnw]; exact own_objG (hLp.own (by decide) t1) oR4 (by decide) gR, by rw [hnt]; exact own_objG hLp.row oR4 (by decide) gR, by rw [hnf, hXF]; exact own_objG (hLp.own (by decide) t3) oR4 (by decide) gR, tl1, hLp.len,
                fun i r v h1 h2 => own_objG (hLp.own (by decide) (tn i r v h1 h2)) oR4 (by decide) gR, fun i r v h1 h2 => own_objG (hLp.new i r v (by have := (List.getElem?_eq_some_iff.1 h1).1; omega) h1 h2) oR4 (by decide) gR, hwi, hti⟩
            have hqF := b_three (b := R) hLp.bw (by rw [hD]; omega) (.slice o1 nw c1) (.slice o2 nt c2) (.slice o3 nf c3)
            have HZ := Lib.hid (And.intro oE (And.intro hqF hOwn))
            have HM := Lib.hid (And.intro hnw (And.intro hnt hnf))
            have y0 := obj_cell oCl 0
            have y1 := obj_cell oCl 1
            have y2 := obj_cell oCl 2
            have e0 := obj_free oR4 0
            have e1 := obj_free oR4 1
            have e2 := obj_free oR4 2
            have r0 := obj_cell oR4 0
            have r1 := obj_cell oR4 1
            have r2 := obj_cell oR4 2
            clear oE hqF hOwn hLp HT t1 tl1 tn t3 gR oR4 oCl oC3 oR3 hwi hti hvt1 hvt2 hnt hnf hXT hXF s2 hnw
            go_wp2
            obtain ⟨oE, hqF, hOwn⟩ := HZ.out
            have c0' := obj_cell oE 0
            have c1' := obj_cell oE 1
            have c2' := obj_cell oE 2
            refine bodyPost_ret (v := .agg #[.slice o1 nw c1, .slice o2 nt c2, .slice o3 nf c3]) (by simp [results, Try.results35, go_sem, c0', c1', c2']) rfl ⟨o1, c1, o2, c2, o3, c3, ssw, ss, by rw [HM.out.1, HM.out.2.1, HM.out.2.2], ?_, hqF⟩
            rw [HM.out.1, HM.out.2.1, HM.out.2.2]
            have hwk' : w.heap.size ≤ k := by rw [hD]; exact hwk
            exact ⟨own_low hOwn.ws hwk', own_low hOwn.ts hwk', own_low hOwn.fs hwk', hOwn.sl, hOwn.tl, fun i r v h1 h2 => own_low (hOwn.sh i r v h1 h2) hwk', fun i r v h1 h2 => own_low (hOwn.th i r v h1 h2) hwk', hOwn.wi, hOwn.ti⟩
end Go.Proofs.Ytkhaephmpifcmaa

namespace Go.Proofs.Ytkhaephmpifcmaa
open Go.RowKit Go.Maps Go.WideMaps
set_option linter.unusedVariables false
theorem laid9 : laidOutB Try.prog = true := by kernel_rfl
theorem wideWell : (match Try.prog.underlying 61 with | some (.array _ _) | some (.struct _) => true | _ => false) = true := by rw [Try.underlying61]
set_option maxRecDepth 100000 in
theorem wellKeyed : Keyed Try.prog 61 := Keyed.of_law (deep_law_laid laid9 (m := 3) (by omega) (of_decide_eq_true (by kernel_rfl)) (by kernel_rfl) wideWell)
def wkey (n : ByteArray) (r c : Int) : Lit := .string (keyBytes [.string n.data.toList, .int .i64 r, .int .i64 c])
theorem wf_i64 {r : Int} (h : I64 r) : (Lit.int .i64 r).wf = true := by
  unfold I64 at h
  simp [Lit.wf, IntKind.min, IntKind.max, IntKind.signed, IntKind.bits]
  omega
theorem keyT : Try.prog.keyType 61 = true := by kernel_rfl
theorem cells3 : Try.prog.cellsOf 61 = 3 := by kernel_rfl
theorem cellsS : Try.prog.cellsOf 9 = 1 := by kernel_rfl
theorem cellsI1 : Try.prog.cellsOf 3 = 1 := by kernel_rfl
theorem key_well (n : ByteArray) (r c : Int) (hn : n.size ≤ maxLen) (hr : I64 r) (hc : I64 c) : keyOf Try.prog 61 (.agg #[.string n, .int .i64 r, .int .i64 c]) = some (wkey n r c) := by
  have wr := wf_i64 hr
  have wc := wf_i64 hc
  have e : Try.prog.keyLits (Try.prog.types.size + 1) 61 [.string n, .int .i64 r, .int .i64 c] = some [.string n.data.toList, .int .i64 r, .int .i64 c] := by
    obtain ⟨m, hm⟩ : ∃ m, Try.prog.types.size = m + 1 := ⟨Try.prog.types.size - 1, by have : 0 < Try.prog.types.size := of_decide_eq_true (by kernel_rfl); omega⟩
    rw [hm]
    simp [Program.keyLits, Try.underlying61, Try.underlying9, Try.underlying3, cells3, cellsS, cellsI1, hn, wr, wc]
  unfold keyOf
  rw [Try.underlying61]
  simp only [keyT]
  simp [Value.formed, Try.underlying61, cells3, Value.cells, wkey]
  exact ⟨_, by simpa using e, rfl⟩
theorem wkey_inj {n n' : ByteArray} {r c r' c' : Int} (hn : n.size ≤ maxLen) (hr : I64 r) (hc : I64 c) (hn' : n'.size ≤ maxLen) (hr' : I64 r') (hc' : I64 c') (h : wkey n r c = wkey n' r' c') : n = n' ∧ r = r' ∧ c = c' := by
  have := wellKeyed.inj (key_well n r c hn hr hc) (h ▸ key_well n' r' c' hn' hr' hc')
  simpa using this
end Go.Proofs.Ytkhaephmpifcmaa

namespace Go.Proofs.Ytkhaephmpifcmaa
open Go.RowKit Go.Maps Go.WideMaps
set_option linter.unusedVariables false
/-- A map of the wells that are filled. -/
def FmAt (w : World) (b : Nat) (fs : List Fl) : Prop :=
  ∃ D : DataW Unit, w.ownsMap Try.prog 61 unitElem b fs.length D ∧ Maps.IsMap D ∧ ∀ n r c, n.size ≤ maxLen → I64 r → I64 c → Maps.has D (wkey n r c) = filledW fs n r c
theorem FmAt.new (w : World) : FmAt (w.alloc (.map #[] 0)) w.heap.size [] := ⟨_, World.ownsMap_made w _ _ _, Maps.isMap_empty, fun _ _ _ _ _ _ => rfl⟩
theorem FmAt.same {w w' : World} {b : Nat} {fs : List Fl} (h : FmAt w b fs) (hb : w'.heap[b]? = w.heap[b]?) : FmAt w' b fs :=
  let ⟨D, h1, h2⟩ := h
  ⟨D, ownsMap_same h1 hb, h2⟩
theorem FmAt.obj {w : World} {b : Nat} {fs : List Fl} (h : FmAt w b fs) : ∃ es c, w.heap[b]? = some (.map es c) := let ⟨_, h1, _⟩ := h; ownsMap_obj h1
theorem filled_put {D : DataW Unit} {fs : List Fl} {n : ByteArray} {r c v : Int} (hM : Maps.IsMap D) (hn : n.size ≤ maxLen) (hr : I64 r) (hc : I64 c)
    (hH : ∀ n r c, n.size ≤ maxLen → I64 r → I64 c → Maps.has D (wkey n r c) = filledW fs n r c) :
    ∀ n' r' c', n'.size ≤ maxLen → I64 r' → I64 c' → Maps.has (D.put (wkey n r c) (.agg [])) (wkey n' r' c') = filledW (fs ++ [⟨n, r, c, v⟩]) n' r' c' := fun n' r' c' hn' hr' hc' => by
  have e : filledW (fs ++ [⟨n, r, c, v⟩]) n' r' c' = (filledW fs n' r' c' || ((n.toList == n'.toList) && decide (r = r') && decide (c = c'))) := by simp [filledW]
  rw [e]
  by_cases h : wkey n' r' c' = wkey n r c
  · obtain ⟨rfl, rfl, rfl⟩ := wkey_inj hn' hr' hc' hn hr hc h
    rw [has_put_same hM (show WideAt.IsKeyLit (wkey n' r' c') from trivial)]
    simp
  · rw [has_put_other h, hH _ _ _ hn' hr' hc']
    have : ((n.toList == n'.toList) && decide (r = r') && decide (c = c')) = false := by
      cases hx : ((n.toList == n'.toList) && decide (r = r') && decide (c = c'))
      · rfl
      · exfalso
        simp only [Bool.and_eq_true, beq_iff_eq, decide_eq_true_eq] at hx
        obtain ⟨⟨h1, rfl⟩, rfl⟩ := hx
        have : n = n' := by
          rw [Go.Lib.toList_data, Go.Lib.toList_data] at h1
          exact ByteArray.ext (Array.toList_inj.1 h1)
        exact h (by rw [this])
    rw [this, Bool.or_false]
theorem look_nm {w : World} {b k : Nat} {D : DataW Unit} {s : ByteArray} {V : Int} {Bo : Bool} (hs : s.size ≤ maxLen) (hh : Maps.has D (.string s.data.toList) = Bo) (ha : D.atKey (.string s.data.toList) (.lit (.int .i64 0)) = .lit (.int .i64 V))
    (hD : w.ownsMap Try.prog 9 (plainElem Try.prog 3) b k D) : (Instr.lookup 128 (.map (some b)) (.string s) true).run Try.prog w = .ok (.tuple #[.int .i64 V, .bool Bo]) w := by
  obtain ⟨v, ps, h1, h2⟩ := hD.look_ok str9 Try.underlying128 (int_zero w) (plainElem_int Try.underlying3 (by decide)) (key9 s hs)
  obtain ⟨x, rfl, hx, _⟩ := plainElem_int_inv Try.underlying3 h2
  have : DataW.lit (.int .i64 x) = (.lit (.int .i64 V) : DataW Unit) := (congrArg Prod.fst hx).symm.trans ha
  obtain rfl : x = V := by simpa using this
  rw [h1, hh]
theorem unit_zero (w : World) : (zeroValue 101).run Try.prog w = .ok (.agg #[]) w := by kernel_rfl
theorem look_fl {w : World} {b k : Nat} {D : DataW Unit} {n : ByteArray} {r c : Int} {Bo : Bool} (hn : n.size ≤ maxLen) (hr : I64 r) (hc : I64 c) (hh : Maps.has D (wkey n r c) = Bo)
    (hD : w.ownsMap Try.prog 61 unitElem b k D) : (Instr.lookup 129 (.map (some b)) (.agg #[.string n, .int .i64 r, .int .i64 c]) true).run Try.prog w = .ok (.tuple #[.agg #[], .bool Bo]) w := by
  obtain ⟨v, ps, h1, h2⟩ := hD.look_ok wellKeyed Try.underlying129 (unit_zero w) unitElem_mk (key_well n r c hn hr hc)
  obtain ⟨rfl, _⟩ := unitElem_inv h2
  rw [h1, hh]
theorem index_no : ∀ (ws : List Wr) (K : Int) (n : ByteArray) (r c : Int), namedL (ws.map (·.n)) n = false → indexW ws K n r c = none
  | [], _, _, _, _, _ => rfl
  | w :: ws, K, n, r, c, h => by
    simp only [List.map_cons, namedL, List.any_cons, Bool.or_eq_false_iff] at h
    rw [indexW, h.1]
    simp only [Bool.false_eq_true, if_false]
    exact index_no ws _ n r c h.2
theorem index_yes : ∀ (ws : List Wr) (K : Int) (i : Nat) (x : Wr) (r c : Int), ws[i]? = some x → (∀ (j : Nat) y, ws[j]? = some y → j < i → (y.n.toList == x.n.toList) = false) →
    (indexW ws K x.n r c).isSome = decide (0 ≤ r ∧ r < x.x ∧ 0 ≤ c ∧ c < x.y)
  | [], _, _, _, _, _, h, _ => by simp at h
  | w :: ws, K, 0, x, r, c, h, _ => by
    obtain rfl : w = x := by simpa using h
    rw [indexW, beq_self_eq_true]
    simp only [if_true]
    split
    · rename_i hh; simp [hh]
    · rename_i hh; simp [hh]
  | w :: ws, K, i + 1, x, r, c, h, hne => by
    have h0 := hne 0 w rfl (by omega)
    rw [indexW, h0]
    simp only [Bool.false_eq_true, if_false]
    exact index_yes ws _ i x r c (by simpa using h) (fun j y hj hl => hne (j + 1) y (by simpa using hj) (by omega))
theorem has_yes {D : DataW Unit} {ws : List Wr} {i : Nat} {x : Wr} (r c : Int) (hx : ws[i]? = some x)
    (hA : ∀ (i : Nat) n, (ws.map (·.n))[i]? = some n → D.atKey (.string n.data.toList) (.lit (.int .i64 0)) = .lit (.int .i64 ((i : Nat) : Int))) : hasW ws x.n r c = decide (0 ≤ r ∧ r < x.x ∧ 0 ≤ c ∧ c < x.y) := by
  refine index_yes ws 0 i x r c hx (fun j y hj hl => ?_)
  cases hb : y.n.toList == x.n.toList
  · rfl
  · exfalso
    have h1 := hA j y.n (by rw [List.getElem?_map, hj]; rfl)
    have h2 := hA i x.n (by rw [List.getElem?_map, hx]; rfl)
    have e : y.n.data.toList = x.n.data.toList := by rw [← Go.Lib.toList_data, ← Go.Lib.toList_data]; simpa using hb
    rw [e, h2] at h1
    have : (i : Int) = (j : Int) := by simpa using h1
    omega
/-- A well marked, if it may be. -/
def fillN (ws : List Wr) (fs : List Fl) (n : ByteArray) (r c : Int) : List Fl := if (hasW ws n r c && !filledW fs n r c) = true then fs ++ [⟨n, r, c, 0⟩] else fs
set_option maxRecDepth 100000 in
set_option maxHeartbeats 1600000 in
theorem fill_any (w : World) (base S bw bf : Nat) (wv tv fv tm pv hv : Value) (ws : List Wr) (fs : List Fl) (n : ByteArray) (r c : Int) (hn : n.size ≤ maxLen) (hr : I64 r) (hc : I64 c)
    (oS : w.heap[S]? = some (.cells #[wv, tv, fv, .map (some bw), tm, .map (some bf), pv, hv] 132 (0, 0))) (hW : IsRecs w wv ws) (hw : NmAt w bw (ws.map (·.n))) (hf : FmAt w bf fs) (hbf : base ≤ bf) (hfs : fs.length < 100000) :
    Calls Try.prog 51 #[.pointer (some ⟨S, 0, none⟩), .agg #[.string n, .int .i64 r, .int .i64 c]] w fun e w' => e = .returned (.bool (hasW ws n r c && !filledW fs n r c)) ∧ FmAt w' bf (fillN ws fs n r c) ∧ Tn kM base w w' ∧ Tm bf w w' := by
  obtain ⟨D, hD0, hT, hS, hH, hA⟩ := hw
  have HF := Lib.hid hf
  obtain ⟨E, hE0, hM, hHE⟩ := hf
  have hWlen := hW.len
  -- the box
  have B1 : B w (w.alloc (.cells #[.string n, .int .i64 r, .int .i64 c] 61)) := (B.refl w).alloc _ _
  have oG := obj_new w (.cells #[.string n, .int .i64 r, .int .i64 c] 61)
  have oS1 := B1.obj oS
  have hD := ownsMap_same hD0 (B1.below.block _ hD0.lt)
  have hE := ownsMap_same hE0 (B1.below.block _ hE0.lt)
  have hW1 := hW.keepB B1
  have Bw := B1
  have hGlt := obj_lt oG
  go_enter Try.func51, Try.ntmps51
  go_wp2_with fail
  generalize w.alloc (.cells #[.string n, .int .i64 r, .int .i64 c] 61) = W1 at *
  generalize w.heap.size = G at *
  replace B1 := B.refl W1
  have s3 : W1.cell? ⟨S, 3, none⟩ = some (.map (some bw)) := obj_cell oS1 3
  have g0 : W1.cell? ⟨G, 0, none⟩ = some (.string n) := obj_cell oG 0
  clear hW
  cases hnm : namedL (ws.map (·.n)) n
  · have hno : hasW ws n r c = false := by unfold hasW; rw [index_no ws 0 n r c hnm]; rfl
    have cL := fun w => look_nm (w := w) (b := bw) (k := (ws.map (·.n)).length) hn ((hH n).trans hnm) (atKey_of_not_has ((hH n).trans hnm) _)
    have HN := Lib.hid hno
    refine wp_region_noPanic ?_
    refine wp_region_seq (S := fun w' => B W1 w' ∧ w'.cell? ⟨S, 3, none⟩ = some (.map (some bw)) ∧ w'.cell? ⟨G, 0, none⟩ = some (.string n) ∧ w'.ownsMap Try.prog 9 (plainElem Try.prog 3) bw (ws.map (·.n)).length D) [(0, 0), (1, 0), (2, 0), (3, 0), (4, 0), (5, 0), (6, 0), (7, 0), (8, 0), (9, 0), (10, 0), (11, 0)] [0, 1, 2, 4, 0, 16, 40, 64, 128, 128, 511, 2047] [0, 1, 2, 4, 0, 16, 40, 64, 128, 128, 256, 512] (by kernel_rfl) (by kernel_rfl) (fun _ _ _ _ _ h => h) ?_ (fun hH => ?_)
    · exact ⟨B1.drew, s3, g0, hD⟩
    refine wpSeq_take (d := 11) (v := ?_) rfl rfl (by kernel_rfl) (fun w hS => ?_) ?_
    rotate_left
    · go_simp <;> with_reducible rfl
    dsimp only [List.set_cons_zero, List.set_cons_succ]
    refine wpSeq_take (d := 12) (v := ?_) rfl rfl (by kernel_rfl) (fun w hS => ?_) ?_
    rotate_left
    · go_simp <;> with_reducible rfl
    dsimp only [List.set_cons_zero, List.set_cons_succ]
    refine wpSeq_take (d := 13) (v := ?_) rfl rfl (by kernel_rfl) (fun w hS => ?_) ?_
    rotate_left
    · go_simp <;> with_reducible rfl
    dsimp only [List.set_cons_zero, List.set_cons_succ]
    refine wpSeq_take (d := 14) (v := ?_) rfl rfl (by kernel_rfl) (fun w hS => ?_) ?_
    rotate_left
    · go_simp <;> with_reducible rfl
    dsimp only [List.set_cons_zero, List.set_cons_succ]
    refine wpSeq_take (d := 15) (v := ?_) rfl rfl (by kernel_rfl) (fun w hS => ?_) ?_
    rotate_left
    · go_simp <;> with_reducible rfl
    dsimp only [List.set_cons_zero, List.set_cons_succ]
    refine wpSeq_take (d := 16) (v := ?_) rfl rfl (by kernel_rfl) (fun w hS => ?_) ?_
    rotate_left
    · go_simp <;> with_reducible rfl
    dsimp only [List.set_cons_zero, List.set_cons_succ]
    refine wpSeq_take (d := 17) (v := .tuple #[.int .i64 0, .bool false]) rfl rfl (by kernel_rfl) (fun w hS => ?_) ?_
    · have e := cL w hS.2.2.2; go_simp
    dsimp only [List.set_cons_zero, List.set_cons_succ]
    refine wpSeq_take (d := 10) (v := ?_) rfl rfl (by kernel_rfl) (fun w hS => ?_) ?_
    rotate_left
    · go_simp <;> with_reducible rfl
    dsimp only [List.set_cons_zero, List.set_cons_succ]
    refine wpSeq_take (d := 18) (v := ?_) rfl rfl (by kernel_rfl) (fun w hS => ?_) ?_
    rotate_left
    · go_simp <;> with_reducible rfl
    dsimp only [List.set_cons_zero, List.set_cons_succ]
    refine wpSeq_take (d := 19) (v := ?_) rfl rfl (by kernel_rfl) (fun w hS => ?_) ?_
    rotate_left
    · go_simp <;> with_reducible rfl
    dsimp only [List.set_cons_zero, List.set_cons_succ]
    refine wpSeq_take (d := 5) (v := ?_) rfl rfl (by kernel_rfl) (fun w hS => ?_) ?_
    rotate_left
    · go_simp <;> with_reducible rfl
    dsimp only [List.set_cons_zero, List.set_cons_succ]
    refine wpSeq_take (d := 6) (v := ?_) rfl rfl (by kernel_rfl) (fun w hS => ?_) ?_
    rotate_left
    · go_simp <;> with_reducible rfl
    dsimp only [List.set_cons_zero, List.set_cons_succ]
    refine wpSeq_done ?_
    refine NoPanic.normal ?_
    go_wp2
    go_ret
    refine ⟨by rw [HN.out]; rfl, ?_, (Bw.tn _ _).drew, Bw.drew.tm bf⟩
    have : fillN ws fs n r c = fs := by unfold fillN; rw [HN.out]; simp
    rw [this]
    exact HF.out.same (Bw.below.block _ (by obtain ⟨es, c, ho⟩ := HF.out.obj; exact obj_lt ho))
  · obtain ⟨i, x, hi, hxn⟩ : ∃ (i : Nat) (x : Wr), ws[i]? = some x ∧ x.n = n := by
      obtain ⟨m, hm, he⟩ := List.any_eq_true.1 hnm
      obtain ⟨x, hx, hxm⟩ := List.mem_map.1 hm
      subst hxm
      obtain ⟨i, hi⟩ := List.getElem?_of_mem hx
      refine ⟨i, x, hi, ?_⟩
      rw [Go.Lib.toList_data, Go.Lib.toList_data] at he
      exact ByteArray.ext (Array.toList_inj.1 (by simpa using he))
    have hhas := has_yes r c hi hA
    have hAi := hA i x.n (by rw [List.getElem?_map, hi]; rfl)
    rw [hxn] at hhas hAi
    have cL := fun w => look_nm (w := w) (b := bw) (k := (ws.map (·.n)).length) hn ((hH n).trans hnm) hAi
    have hil : i < ws.length := (List.getElem?_eq_some_iff.1 hi).1
    obtain ⟨a, cap, rfl, _, _, hr5⟩ := hW1.at_ hil
    have hix : ws[i] = x := by
      rw [List.getElem?_eq_getElem hil] at hi
      exact Option.some.inj hi
    rw [hix] at hr5
    clear hix
    have hlI : (i : Int) < (ws.length : Int) := by omega
    have hi0 : (0 : Int) ≤ (i : Int) := by omega
    refine wp_region_noPanic ?_
    refine wp_region_seq (S := fun w' => B W1 w' ∧ w'.cell? ⟨S, 3, none⟩ = some (.map (some bw)) ∧ w'.cell? ⟨G, 0, none⟩ = some (.string n) ∧ w'.ownsMap Try.prog 9 (plainElem Try.prog 3) bw (ws.map (·.n)).length D) [(0, 0), (1, 0), (2, 0), (3, 0), (4, 0), (5, 0), (6, 0), (7, 0), (8, 0), (9, 0), (10, 0), (11, 0)] [0, 1, 2, 4, 0, 16, 40, 64, 128, 128, 511, 2047] [0, 1, 2, 4, 0, 16, 40, 64, 128, 128, 256, 512] (by kernel_rfl) (by kernel_rfl) (fun _ _ _ _ _ h => h) ?_ (fun hH => ?_)
    · exact ⟨B1.drew, s3, g0, hD⟩
    refine wpSeq_take (d := 11) (v := ?_) rfl rfl (by kernel_rfl) (fun w hS => ?_) ?_
    rotate_left
    · go_simp <;> with_reducible rfl
    dsimp only [List.set_cons_zero, List.set_cons_succ]
    refine wpSeq_take (d := 12) (v := ?_) rfl rfl (by kernel_rfl) (fun w hS => ?_) ?_
    rotate_left
    · go_simp <;> with_reducible rfl
    dsimp only [List.set_cons_zero, List.set_cons_succ]
    refine wpSeq_take (d := 13) (v := ?_) rfl rfl (by kernel_rfl) (fun w hS => ?_) ?_
    rotate_left
    · go_simp <;> with_reducible rfl
    dsimp only [List.set_cons_zero, List.set_cons_succ]
    refine wpSeq_take (d := 14) (v := ?_) rfl rfl (by kernel_rfl) (fun w hS => ?_) ?_
    rotate_left
    · go_simp <;> with_reducible rfl
    dsimp only [List.set_cons_zero, List.set_cons_succ]
    refine wpSeq_take (d := 15) (v := ?_) rfl rfl (by kernel_rfl) (fun w hS => ?_) ?_
    rotate_left
    · go_simp <;> with_reducible rfl
    dsimp only [List.set_cons_zero, List.set_cons_succ]
    refine wpSeq_take (d := 16) (v := ?_) rfl rfl (by kernel_rfl) (fun w hS => ?_) ?_
    rotate_left
    · go_simp <;> with_reducible rfl
    dsimp only [List.set_cons_zero, List.set_cons_succ]
    refine wpSeq_take (d := 17) (v := .tuple #[.int .i64 (i : Int), .bool true]) rfl rfl (by kernel_rfl) (fun w hS => ?_) ?_
    · have e := cL w hS.2.2.2; go_simp
    dsimp only [List.set_cons_zero, List.set_cons_succ]
    refine wpSeq_take (d := 10) (v := ?_) rfl rfl (by kernel_rfl) (fun w hS => ?_) ?_
    rotate_left
    · go_simp <;> with_reducible rfl
    dsimp only [List.set_cons_zero, List.set_cons_succ]
    refine wpSeq_take (d := 18) (v := ?_) rfl rfl (by kernel_rfl) (fun w hS => ?_) ?_
    rotate_left
    · go_simp <;> with_reducible rfl
    dsimp only [List.set_cons_zero, List.set_cons_succ]
    refine wpSeq_take (d := 19) (v := ?_) rfl rfl (by kernel_rfl) (fun w hS => ?_) ?_
    rotate_left
    · go_simp <;> with_reducible rfl
    dsimp only [List.set_cons_zero, List.set_cons_succ]
    refine wpSeq_take (d := 5) (v := ?_) rfl rfl (by kernel_rfl) (fun w hS => ?_) ?_
    rotate_left
    · go_simp <;> with_reducible rfl
    dsimp only [List.set_cons_zero, List.set_cons_succ]
    refine wpSeq_take (d := 6) (v := ?_) rfl rfl (by kernel_rfl) (fun w hS => ?_) ?_
    rotate_left
    · go_simp <;> with_reducible rfl
    dsimp only [List.set_cons_zero, List.set_cons_succ]
    refine wpSeq_done ?_
    refine NoPanic.normal ?_
    have s0 : W1.drew.cell? ⟨S, 0, none⟩ = some (.slice (some a) ws.length cap) := obj_cell (w := W1.drew) oS1 0
    obtain ⟨xv, l4, l4s⟩ := hr5.l
    obtain ⟨xo, xc, rfl⟩ := secs_form l4s
    clear l4s
    have l0 := hr5.n
    rw [hxn] at l0
    have l1 := hr5.x
    have l2 := hr5.y
    have l3 := hr5.z
    have g1 : W1.cell? ⟨G, 1, none⟩ = some (.int .i64 r) := obj_cell oG 1
    have g2 : W1.cell? ⟨G, 2, none⟩ = some (.int .i64 c) := obj_cell oG 2
    have s5 : W1.cell? ⟨S, 5, none⟩ = some (.map (some bf)) := obj_cell oS1 5
    have hSl := obj_lt oS1
    clear hH hA hAi hr5 hD0 hE0 hT hS oS hW1 hi cL
    obtain ⟨X, hX⟩ : ∃ X, x.x = X := ⟨_, rfl⟩
    obtain ⟨Y, hY⟩ : ∃ Y, x.y = Y := ⟨_, rfl⟩
    rw [hX] at l1 hhas
    rw [hY] at l2 hhas
    obtain ⟨Z, hZ⟩ : ∃ Z, x.z = Z := ⟨_, rfl⟩
    rw [hZ] at l3
    clear hX hY hZ hxn
    by_cases b1 : r < 0
    · have k1 : decide (r < 0) = true := decide_eq_true b1
      by_cases z : True
      · have hno : hasW ws n r c = false := by rw [hhas]; exact decide_eq_false (by omega)
        have HN := Lib.hid hno
        clear hhas hno b1
        go_wp2
        go_ret
        refine ⟨by rw [HN.out]; rfl, ?_, ((Bw.tn _ _).drew).alloc _ _, (Bw.drew.alloc _ _).tm bf⟩
        have : fillN ws fs n r c = fs := by unfold fillN; rw [HN.out]; simp
        rw [this]
        exact HF.out.same (((Bw.drew.alloc _ _)).below.block _ (by obtain ⟨es, c, ho⟩ := HF.out.obj; exact obj_lt ho))
      · exact absurd trivial z
    have k1 : decide (r < 0) = false := decide_eq_false b1
    by_cases b2 : X ≤ r
    · have k2 : decide (X ≤ r) = true := decide_eq_true b2
      by_cases z : True
      · have hno : hasW ws n r c = false := by rw [hhas]; exact decide_eq_false (by omega)
        have HN := Lib.hid hno
        clear hhas hno b1 b2
        go_wp2
        go_ret
        refine ⟨by rw [HN.out]; rfl, ?_, ((Bw.tn _ _).drew).alloc _ _, (Bw.drew.alloc _ _).tm bf⟩
        have : fillN ws fs n r c = fs := by unfold fillN; rw [HN.out]; simp
        rw [this]
        exact HF.out.same (((Bw.drew.alloc _ _)).below.block _ (by obtain ⟨es, c, ho⟩ := HF.out.obj; exact obj_lt ho))
      · exact absurd trivial z
    have k2 : decide (X ≤ r) = false := decide_eq_false b2
    by_cases b3 : c < 0
    · have k3 : decide (c < 0) = true := decide_eq_true b3
      by_cases z : True
      · have hno : hasW ws n r c = false := by rw [hhas]; exact decide_eq_false (by omega)
        have HN := Lib.hid hno
        clear hhas hno b1 b2 b3
        go_wp2
        go_ret
        refine ⟨by rw [HN.out]; rfl, ?_, ((Bw.tn _ _).drew).alloc _ _, (Bw.drew.alloc _ _).tm bf⟩
        have : fillN ws fs n r c = fs := by unfold fillN; rw [HN.out]; simp
        rw [this]
        exact HF.out.same (((Bw.drew.alloc _ _)).below.block _ (by obtain ⟨es, c, ho⟩ := HF.out.obj; exact obj_lt ho))
      · exact absurd trivial z
    have k3 : decide (c < 0) = false := decide_eq_false b3
    by_cases b4 : Y ≤ c
    · have k4 : decide (Y ≤ c) = true := decide_eq_true b4
      by_cases z : True
      · have hno : hasW ws n r c = false := by rw [hhas]; exact decide_eq_false (by omega)
        have HN := Lib.hid hno
        clear hhas hno b1 b2 b3 b4
        go_wp2
        go_ret
        refine ⟨by rw [HN.out]; rfl, ?_, ((Bw.tn _ _).drew).alloc _ _, (Bw.drew.alloc _ _).tm bf⟩
        have : fillN ws fs n r c = fs := by unfold fillN; rw [HN.out]; simp
        rw [this]
        exact HF.out.same (((Bw.drew.alloc _ _)).below.block _ (by obtain ⟨es, c, ho⟩ := HF.out.obj; exact obj_lt ho))
      · exact absurd trivial z
    have k4 : decide (Y ≤ c) = false := decide_eq_false b4
    have hyes : hasW ws n r c = true := by rw [hhas]; exact decide_eq_true (by omega)
    have HY := Lib.hid hyes
    clear hhas hyes b1 b2 b3 b4
    generalize x.l.length = xl at *
    go_wp2
    have B3 : B W1 (W1.alloc (.cells #[.string n, .int .i64 X, .int .i64 Y, .int .i64 Z, .slice xo xl xc] 58)).drew := ((B.refl W1).alloc _ _).drew
    replace s5 := B3.keep s5
    replace g0 := B3.keep g0
    replace g1 := B3.keep g1
    replace g2 := B3.keep g2
    replace hE := ownsMap_same hE (B3.below.block _ hE.lt)
    clear l0 l1 l2 l3 l4 s0 s3 hD oS1 oG
    generalize (W1.alloc (.cells #[.string n, .int .i64 X, .int .i64 Y, .int .i64 Z, .slice xo xl xc] 58)).drew = W3 at *
    have hfl := hHE n r c hn hr hc
    cases hfill : filledW fs n r c
    · have cE := fun w => look_fl (w := w) (b := bf) (k := fs.length) hn hr hc (hfl.trans hfill)
      have cU := fun (w : World) (hE : w.ownsMap Try.prog 61 unitElem bf fs.length E) => hE.store wellKeyed Try.underlying129 (by unfold maxLen; omega) (key_well n r c hn hr hc) (unitElem_mk (H := Unit))
      replace hfill := Lib.hid hfill
      refine wp_region_noPanic ?_
      refine wp_region_seq (S := fun w' => B W1 w' ∧ w'.cell? ⟨S, 5, none⟩ = some (.map (some bf)) ∧ w'.cell? ⟨G, 0, none⟩ = some (.string n) ∧ w'.cell? ⟨G, 1, none⟩ = some (.int .i64 r) ∧ w'.cell? ⟨G, 2, none⟩ = some (.int .i64 c) ∧ w'.ownsMap Try.prog 61 unitElem bf fs.length E) [(0, 0), (1, 0), (2, 0), (3, 0), (4, 0), (5, 0), (6, 0), (7, 0), (8, 0), (9, 2), (10, 2), (11, 0)] [0, 1, 2, 4, 0, 24, 32, 64, 64, 0, 767, 2047] [0, 1, 2, 4, 0, 24, 32, 64, 64, 0, 640, 256] (by kernel_rfl) (by kernel_rfl) (fun _ _ _ _ _ h => h) ?_ (fun hH => ?_)
      · exact ⟨B3.drew, s5, g0, g1, g2, hE⟩
      refine wpSeq_take (d := 53) (v := ?_) rfl rfl (by kernel_rfl) (fun w hS => ?_) ?_
      rotate_left
      · go_simp <;> with_reducible rfl
      dsimp only [List.set_cons_zero, List.set_cons_succ]
      refine wpSeq_take (d := 54) (v := ?_) rfl rfl (by kernel_rfl) (fun w hS => ?_) ?_
      rotate_left
      · go_simp <;> with_reducible rfl
      dsimp only [List.set_cons_zero, List.set_cons_succ]
      refine wpSeq_take (d := 55) (v := ?_) rfl rfl (by kernel_rfl) (fun w hS => ?_) ?_
      rotate_left
      · go_simp <;> with_reducible rfl
      dsimp only [List.set_cons_zero, List.set_cons_succ]
      refine wpSeq_take (d := 56) (v := ?_) rfl rfl (by kernel_rfl) (fun w hS => ?_) ?_
      rotate_left
      · go_simp <;> with_reducible rfl
      dsimp only [List.set_cons_zero, List.set_cons_succ]
      refine wpSeq_take (d := 57) (v := ?_) rfl rfl (by kernel_rfl) (fun w hS => ?_) ?_
      rotate_left
      · go_simp <;> with_reducible rfl
      dsimp only [List.set_cons_zero, List.set_cons_succ]
      refine wpSeq_take (d := 58) (v := .tuple #[.agg #[], .bool false]) rfl rfl (by kernel_rfl) (fun w hS => ?_) ?_
      · have e := cE w hS.2.2.2.2.2; go_simp
      dsimp only [List.set_cons_zero, List.set_cons_succ]
      refine wpSeq_take (d := 52) (v := ?_) rfl rfl (by kernel_rfl) (fun w hS => ?_) ?_
      rotate_left
      · go_simp <;> with_reducible rfl
      dsimp only [List.set_cons_zero, List.set_cons_succ]
      refine wpSeq_take (d := 59) (v := ?_) rfl rfl (by kernel_rfl) (fun w hS => ?_) ?_
      rotate_left
      · go_simp <;> with_reducible rfl
      dsimp only [List.set_cons_zero, List.set_cons_succ]
      refine wpSeq_take (d := 60) (v := ?_) rfl rfl (by kernel_rfl) (fun w hS => ?_) ?_
      rotate_left
      · go_simp <;> with_reducible rfl
      dsimp only [List.set_cons_zero, List.set_cons_succ]
      refine wpSeq_call rfl (by kernel_rfl) (fun K hK => ?_)
      go_simp
      refine hK.out _ _ ?_ (fun hH => ?_)
      · first | exact hH | exact ⟨hH.1.alloc _ _, ((B.refl _).alloc _ _).keep hH.2.1, ((B.refl _).alloc _ _).keep hH.2.2.1, ((B.refl _).alloc _ _).keep hH.2.2.2.1, ((B.refl _).alloc _ _).keep hH.2.2.2.2.1, hH.2.2.2.2.2.alloc _⟩
      clear hK
      refine wpSeq_call rfl (by kernel_rfl) (fun K hK => ?_)
      go_simp
      refine hK.out _ _ ?_ (fun hH => ?_)
      · first | exact hH | exact ⟨hH.1.alloc _ _, ((B.refl _).alloc _ _).keep hH.2.1, ((B.refl _).alloc _ _).keep hH.2.2.1, ((B.refl _).alloc _ _).keep hH.2.2.2.1, ((B.refl _).alloc _ _).keep hH.2.2.2.2.1, hH.2.2.2.2.2.alloc _⟩
      clear hK
      refine wpSeq_take (d := 9) (v := ?_) rfl rfl (by kernel_rfl) (fun w hS => ?_) ?_
      rotate_left
      · go_simp <;> with_reducible rfl
      dsimp only [List.set_cons_zero, List.set_cons_succ]
      refine wpSeq_done ?_
      refine NoPanic.normal ?_
      clear s5 g0 g1 g2 hE cE
      obtain ⟨hB4, s5, g0, g1, g2, hE⟩ := hH
      go_wp2
      refine wp_region_noPanic ?_
      refine wp_region_gate (S := fun w' => B W1 w' ∧ w'.cell? ⟨S, 5, none⟩ = some (.map (some bf)) ∧ w'.cell? ⟨G, 0, none⟩ = some (.string n) ∧ w'.cell? ⟨G, 1, none⟩ = some (.int .i64 r) ∧ w'.cell? ⟨G, 2, none⟩ = some (.int .i64 c) ∧ w'.ownsMap Try.prog 61 unitElem bf fs.length E) 6 [(0, 3), (1, 3), (2, 3), (3, 0), (4, 0), (5, 3), (6, 4)] [0, 1, 2, 4, 0, 0, 63] [0, 1, 2, 4, 0, 0, 56] [0, 0, 0, 72, 80, 0, 0] (by kernel_rfl) (by kernel_rfl) (fun _ _ _ _ _ h => h) ?_ (fun hH => ?_)
      · exact ⟨hB4.drew, s5, g0, g1, g2, hE⟩
      refine wpSeqG_free (d := 62) (v := ?_) rfl rfl (by kernel_rfl) (fun w => ?_) ?_
      rotate_left
      · go_simp <;> with_reducible rfl
      dsimp only [List.set_cons_zero, List.set_cons_succ]
      refine wpSeqG_free (d := 63) (v := ?_) rfl rfl (by kernel_rfl) (fun w => ?_) ?_
      rotate_left
      · go_simp <;> with_reducible rfl
      dsimp only [List.set_cons_zero, List.set_cons_succ]
      refine wpSeqG_free (d := 64) (v := ?_) rfl rfl (by kernel_rfl) (fun w => ?_) ?_
      rotate_left
      · go_simp <;> with_reducible rfl
      dsimp only [List.set_cons_zero, List.set_cons_succ]
      refine wpSeqG_take (d := 65) (v := ?_) rfl rfl (by kernel_rfl) (fun w hS => ?_) ?_
      rotate_left
      · go_simp <;> with_reducible rfl
      dsimp only [List.set_cons_zero, List.set_cons_succ]
      refine wpSeqG_take (d := 66) (v := ?_) rfl rfl (by kernel_rfl) (fun w hS => ?_) ?_
      rotate_left
      · go_simp <;> with_reducible rfl
      dsimp only [List.set_cons_zero, List.set_cons_succ]
      refine wpSeqG_free (d := 67) (v := ?_) rfl rfl (by kernel_rfl) (fun w => ?_) ?_
      rotate_left
      · go_simp <;> with_reducible rfl
      dsimp only [List.set_cons_zero, List.set_cons_succ]
      refine wpSeqG_gate rfl (by kernel_rfl) (fun K hK => ?_)
      go_simp
      obtain ⟨w4, e4, hE4, ht4⟩ := cU _ hH.2.2.2.2.2
      have t4 := (hH.1.tn kM base).trans (turned_tn ht4 hbf (by decide))
      have u4 := (hH.1.tm bf).trans (turned_tm ht4)
      rw [e4]
      go_simp
      clear hH
      refine hK.out _ _ ?_
      clear hK
      refine wpSeqG_done ?_
      refine NoPanic.normal ?_
      go_wp2
      go_ret
      refine ⟨by rw [HY.out, hfill.out]; rfl, ?_, (Bw.tn _ _).trans t4, (Bw.tm bf).trans u4⟩
      have : fillN ws fs n r c = fs ++ [⟨n, r, c, 0⟩] := by unfold fillN; rw [HY.out, hfill.out]; simp
      rw [this]
      exact ⟨_, by simpa using hE4, hM.put _ _, filled_put hM hn hr hc hHE⟩
    · have cE := fun w => look_fl (w := w) (b := bf) (k := fs.length) hn hr hc (hfl.trans hfill)
      replace hfill := Lib.hid hfill
      refine wp_region_noPanic ?_
      refine wp_region_seq (S := fun w' => B W1 w' ∧ w'.cell? ⟨S, 5, none⟩ = some (.map (some bf)) ∧ w'.cell? ⟨G, 0, none⟩ = some (.string n) ∧ w'.cell? ⟨G, 1, none⟩ = some (.int .i64 r) ∧ w'.cell? ⟨G, 2, none⟩ = some (.int .i64 c) ∧ w'.ownsMap Try.prog 61 unitElem bf fs.length E) [(0, 0), (1, 0), (2, 0), (3, 0), (4, 0), (5, 0), (6, 0), (7, 0), (8, 0), (9, 2), (10, 2), (11, 0)] [0, 1, 2, 4, 0, 24, 32, 64, 64, 0, 767, 2047] [0, 1, 2, 4, 0, 24, 32, 64, 64, 0, 640, 256] (by kernel_rfl) (by kernel_rfl) (fun _ _ _ _ _ h => h) ?_ (fun hH => ?_)
      · exact ⟨B3.drew, s5, g0, g1, g2, hE⟩
      refine wpSeq_take (d := 53) (v := ?_) rfl rfl (by kernel_rfl) (fun w hS => ?_) ?_
      rotate_left
      · go_simp <;> with_reducible rfl
      dsimp only [List.set_cons_zero, List.set_cons_succ]
      refine wpSeq_take (d := 54) (v := ?_) rfl rfl (by kernel_rfl) (fun w hS => ?_) ?_
      rotate_left
      · go_simp <;> with_reducible rfl
      dsimp only [List.set_cons_zero, List.set_cons_succ]
      refine wpSeq_take (d := 55) (v := ?_) rfl rfl (by kernel_rfl) (fun w hS => ?_) ?_
      rotate_left
      · go_simp <;> with_reducible rfl
      dsimp only [List.set_cons_zero, List.set_cons_succ]
      refine wpSeq_take (d := 56) (v := ?_) rfl rfl (by kernel_rfl) (fun w hS => ?_) ?_
      rotate_left
      · go_simp <;> with_reducible rfl
      dsimp only [List.set_cons_zero, List.set_cons_succ]
      refine wpSeq_take (d := 57) (v := ?_) rfl rfl (by kernel_rfl) (fun w hS => ?_) ?_
      rotate_left
      · go_simp <;> with_reducible rfl
      dsimp only [List.set_cons_zero, List.set_cons_succ]
      refine wpSeq_take (d := 58) (v := .tuple #[.agg #[], .bool true]) rfl rfl (by kernel_rfl) (fun w hS => ?_) ?_
      · have e := cE w hS.2.2.2.2.2; go_simp
      dsimp only [List.set_cons_zero, List.set_cons_succ]
      refine wpSeq_take (d := 52) (v := ?_) rfl rfl (by kernel_rfl) (fun w hS => ?_) ?_
      rotate_left
      · go_simp <;> with_reducible rfl
      dsimp only [List.set_cons_zero, List.set_cons_succ]
      refine wpSeq_take (d := 59) (v := ?_) rfl rfl (by kernel_rfl) (fun w hS => ?_) ?_
      rotate_left
      · go_simp <;> with_reducible rfl
      dsimp only [List.set_cons_zero, List.set_cons_succ]
      refine wpSeq_take (d := 60) (v := ?_) rfl rfl (by kernel_rfl) (fun w hS => ?_) ?_
      rotate_left
      · go_simp <;> with_reducible rfl
      dsimp only [List.set_cons_zero, List.set_cons_succ]
      refine wpSeq_call rfl (by kernel_rfl) (fun K hK => ?_)
      go_simp
      refine hK.out _ _ ?_ (fun hH => ?_)
      · first | exact hH | exact ⟨hH.1.alloc _ _, ((B.refl _).alloc _ _).keep hH.2.1, ((B.refl _).alloc _ _).keep hH.2.2.1, ((B.refl _).alloc _ _).keep hH.2.2.2.1, ((B.refl _).alloc _ _).keep hH.2.2.2.2.1, hH.2.2.2.2.2.alloc _⟩
      clear hK
      refine wpSeq_call rfl (by kernel_rfl) (fun K hK => ?_)
      go_simp
      refine hK.out _ _ ?_ (fun hH => ?_)
      · first | exact hH | exact ⟨hH.1.alloc _ _, ((B.refl _).alloc _ _).keep hH.2.1, ((B.refl _).alloc _ _).keep hH.2.2.1, ((B.refl _).alloc _ _).keep hH.2.2.2.1, ((B.refl _).alloc _ _).keep hH.2.2.2.2.1, hH.2.2.2.2.2.alloc _⟩
      clear hK
      refine wpSeq_take (d := 9) (v := ?_) rfl rfl (by kernel_rfl) (fun w hS => ?_) ?_
      rotate_left
      · go_simp <;> with_reducible rfl
      dsimp only [List.set_cons_zero, List.set_cons_succ]
      refine wpSeq_done ?_
      refine NoPanic.normal ?_
      obtain ⟨hB4, _⟩ := hH
      go_wp2
      go_ret
      refine ⟨by rw [HY.out, hfill.out]; rfl, ?_, (Bw.trans hB4).tn _ _, (Bw.trans hB4).tm bf⟩
      have : fillN ws fs n r c = fs := by unfold fillN; rw [HY.out, hfill.out]; simp
      rw [this]
      exact HF.out.same ((Bw.trans hB4).below.block _ (by obtain ⟨es, c, ho⟩ := HF.out.obj; exact obj_lt ho))
theorem FmAt.tn {K : List (Option TypeId)} {base : Nat} {w w' : World} {b : Nat} {fs : List Fl} (h : FmAt w b fs) (t : Tn K base w w') (hK : none ∉ K) : FmAt w' b fs := by
  obtain ⟨es, c, ho⟩ := h.obj
  exact h.same ((t.objm ho hK).trans ho.symm)
theorem FmAt.tm {w w' : World} {b b' : Nat} {fs : List Fl} (h : FmAt w b fs) (t : Tm b' w w') (hb : b ≠ b') : FmAt w' b fs := by
  obtain ⟨es, c, ho⟩ := h.obj
  exact h.same ((t b es c hb ho).trans ho.symm)
end Go.Proofs.Ytkhaephmpifcmaa

namespace Go.Proofs.Ytkhaephmpifcmaa
open Go.RowKit
set_option linter.unusedVariables false
theorem within_any (v a b : Int) (w : World) : Calls Try.prog 52 #[.int .i64 v, .int .i64 a, .int .i64 b] w fun e w' => e = .returned (.bool (decide (a ≤ v) && decide (v ≤ b))) ∧ w = w' := by
  by_cases h1 : a ≤ v
  · have k1 : decide (a ≤ v) = true := decide_eq_true h1
    cases k2 : decide (v ≤ b)
    all_goals
      go_enter Try.func52, Try.ntmps52
      go_wp2
      go_ret
      exact ⟨by simp [*], rfl⟩
  · have k1 : decide (a ≤ v) = false := decide_eq_false h1
    go_enter Try.func52, Try.ntmps52
    go_wp2
    go_ret
    exact ⟨by simp [*], rfl⟩
end Go.Proofs.Ytkhaephmpifcmaa

namespace Go.Proofs.Ytkhaephmpifcmaa
open Go.RowKit
set_option linter.unusedVariables false
theorem grid_any (n : ByteArray) (x y z : Int) (so : Option Addr) (sn sc : Nat) (w : World) (hx : I64 x) (hy : I64 y) : Calls Try.prog 48 #[.agg #[.string n, .int .i64 x, .int .i64 y, .int .i64 z, .slice so sn sc]] w fun e w' => e = .returned (.bool (inB x 1 8 && inB y 1 12 && inB z 0 1000000)) ∧ B w w' := by
  have cx := fun w => within_any x 1 8 w
  have cy := fun w => within_any y 1 12 w
  have cz := fun w => within_any z 0 1000000 w
  have ex : inB x 1 8 = (decide (1 ≤ x) && decide (x ≤ 8)) := rfl
  have ey : inB y 1 12 = (decide (1 ≤ y) && decide (y ≤ 12)) := rfl
  have ez : inB z 0 1000000 = (decide (0 ≤ z) && decide (z ≤ 1000000)) := rfl
  rw [← ex] at cx
  rw [← ey] at cy
  rw [← ez] at cz
  clear ex ey ez

  have hQ := (B.refl w).alloc #[.string n, .int .i64 x, .int .i64 y, .int .i64 z, .slice so sn sc] 58

  generalize inB x 1 8 = bx at *
  generalize inB y 1 12 = by_ at *
  generalize inB z 0 1000000 = bz at *
  cases bx
  · go_enter Try.func48, Try.ntmps48
    go_wp2_with fail
    refine (cx _).mono ?_
    rintro _ _ ⟨rfl, rfl⟩
    go_wp2
    go_ret
    exact ⟨rfl, hQ⟩
  · cases by_
    · go_enter Try.func48, Try.ntmps48
      go_wp2_with fail
      refine (cx _).mono ?_
      rintro _ _ ⟨rfl, rfl⟩
      go_wp2_with fail
      refine (cy _).mono ?_
      rintro _ _ ⟨rfl, rfl⟩
      go_wp2
      go_ret
      exact ⟨rfl, hQ⟩
    · go_enter Try.func48, Try.ntmps48
      go_wp2_with fail
      refine (cx _).mono ?_
      rintro _ _ ⟨rfl, rfl⟩
      go_wp2_with fail
      refine (cy _).mono ?_
      rintro _ _ ⟨rfl, rfl⟩
      go_wp2_with fail
      refine (cz _).mono ?_
      rintro _ _ ⟨rfl, rfl⟩
      go_wp2
      go_ret
      exact ⟨by simp, hQ⟩
end Go.Proofs.Ytkhaephmpifcmaa

namespace Go.Proofs.Ytkhaephmpifcmaa
open Go.RowKit
set_option linter.unusedVariables false
set_option maxRecDepth 100000 in
set_option maxHeartbeats 1000000 in
theorem newStand_any (ao bo co : Option Addr) (na nb nc ac bc cc : Nat) (w : World) : Calls Try.prog 46 #[.agg #[.slice ao na ac, .slice bo nb bc, .slice co nc cc]] w fun r w' => ∃ S bw bt bf, r = .returned (.pointer (some ⟨S, 0, none⟩)) ∧
      w'.heap[S]? = some (.cells #[.slice ao na ac, .slice bo nb bc, .slice co nc cc, .map (some bw), .map (some bt), .map (some bf), .pointer none, .int .i64 0] 132 (0, 0)) ∧ NmAt w' bw [] ∧ NmAt w' bt [] ∧ FmAt w' bf [] ∧
      w.heap.size ≤ S ∧ w.heap.size ≤ bw ∧ w.heap.size ≤ bt ∧ w.heap.size ≤ bf ∧ bw ≠ bt ∧ bw ≠ bf ∧ bt ≠ bf ∧ B w w' := by
  have k0 : (w.alloc (.cells #[.slice ao na ac, .slice bo nb bc, .slice co nc cc] 67)).cell? ⟨w.heap.size, 0, none⟩ = some (.slice ao na ac) := by rw [World.cell?_alloc_new]; rfl
  have hmm := @run_makeMap Try.prog
  go_enter Try.func46, Try.ntmps46
  go_wp2
  obtain ⟨w1, e1⟩ : ∃ w1, w1 = w.alloc (.cells #[.slice ao na ac, .slice bo nb bc, .slice co nc cc] 67) := ⟨_, rfl⟩
  have z1 : w1.heap.size = w.heap.size + 1 := by rw [e1]; simp
  have q1 : B w w1 := by rw [e1]; exact (B.refl w).alloc _ _
  rw [← e1]
  have qm : ∀ u : World, B u (u.alloc (.map #[] 0)) := fun u => ⟨(Below.refl _ _).alloc (Nat.le_refl _) _⟩
  have n1 := NmAt.new w1
  have n2 := NmAt.new (w1.alloc (.map #[] 0))
  have n3 := FmAt.new ((w1.alloc (.map #[] 0)).alloc (.map #[] 0))
  have z2 : (w1.alloc (.map #[] 0)).heap.size = w1.heap.size + 1 := by simp
  have z3 : ((w1.alloc (.map #[] 0)).alloc (.map #[] 0)).heap.size = w1.heap.size + 1 + 1 := by simp
  rw [z2] at n2
  rw [z3] at n3
  have qL : B (((w1.alloc (.map #[] 0)).alloc (.map #[] 0)).alloc (.map #[] 0)) ((((w1.alloc (.map #[] 0)).alloc (.map #[] 0)).alloc (.map #[] 0)).alloc (.cells #[.slice ao na ac, .slice bo nb bc, .slice co nc cc, .map (some w1.heap.size), .map (some (w1.heap.size + 1)), .map (some (w1.heap.size + 1 + 1)), .pointer none, .int .i64 0] 132)) := (B.refl _).alloc _ _
  have oS := obj_new (((w1.alloc (.map #[] 0)).alloc (.map #[] 0)).alloc (.map #[] 0)) (.cells #[.slice ao na ac, .slice bo nb bc, .slice co nc cc, .map (some w1.heap.size), .map (some (w1.heap.size + 1)), .map (some (w1.heap.size + 1 + 1)), .pointer none, .int .i64 0] 132)
  have z4 : (((w1.alloc (.map #[] 0)).alloc (.map #[] 0)).alloc (.map #[] 0)).heap.size = w1.heap.size + 1 + 1 + 1 := by simp
  rw [z4] at oS
  go_ret
  rw [← z1]
  refine ⟨_, w1.heap.size, w1.heap.size + 1, w1.heap.size + 1 + 1, rfl, oS, ?_, ?_, ?_, by omega, by omega, by omega, by omega, by omega, by omega, by omega, ((((q1.trans (qm _)).trans (qm _)).trans (qm _)).trans qL)⟩
  · exact n1.tn ((((qm (w1.alloc (.map #[] 0))).trans (qm _)).trans qL).tn [] 0) (by simp)
  · exact n2.tn (((qm _).trans qL).tn [] 0) (by simp)
  · exact n3.tn (qL.tn [] 0) (by simp)
end Go.Proofs.Ytkhaephmpifcmaa

namespace Go.Proofs.Ytkhaephmpifcmaa
open Go.RowKit
set_option linter.unusedVariables false
theorem named_map (ws : List Wr) (s : ByteArray) : namedL (ws.map (·.n)) s = namedW ws s := by
  unfold namedL namedW
  rw [List.any_map]
  rfl
end Go.Proofs.Ytkhaephmpifcmaa

namespace Go.Proofs.Ytkhaephmpifcmaa
open Go.RowKit
theorem named_any (s : ByteArray) (w : World) : Calls Try.prog 71 #[.string s] w fun e w' => e = .returned (.bool (nameS s)) ∧ B w w' := by
  by_cases h1 : s.size < 1
  · have h1B : decide ((s.size : Int) < 1) = true := decide_eq_true (by omega)
    rw [nameS_size (.inl h1)]
    clear h1
    go_enter Try.func71, Try.ntmps71
    go_wp2
    go_ret
    exact ⟨rfl, B.refl _⟩
  have h1B : decide ((s.size : Int) < 1) = false := decide_eq_false (by omega)
  by_cases h2 : 16 < s.size
  · have h2B : decide ((16 : Int) < (s.size : Int)) = true := decide_eq_true (by omega)
    rw [nameS_size (.inr h2)]
    clear h1 h2
    go_enter Try.func71, Try.ntmps71
    go_wp2
    go_ret
    exact ⟨rfl, B.refl _⟩
  have h2B : decide ((16 : Int) < (s.size : Int)) = false := decide_eq_false (by omega)
  have hconv := fun w => Lib.run_convert_string_bytes (P := Try.prog) w 9 163 5 s Try.underlying9 Try.underlying163 Try.underlying5
  have hcell : ∀ j, j < s.size → (Lib.bytesWorld w 5 s).cell? ⟨w.heap.size, j, none⟩ = some (.int .u8 ((byteAt s j : Nat) : Int)) := fun j hj => Lib.bytesWorld_cell w _ s j hj
  have hB : B w (Lib.bytesWorld w 5 s) := (B.refl w).bytes _ _
  have hgood := Lib.hid (fun h3 h => nameS_good (s := s) (by omega) (by omega) h3 h)
  have hbad := @nameS_bad s
  have hfst := @nameS_first s
  have HB := Lib.hid hB
  generalize nameS s = R at *
  clear hB
  go_enter Try.func71, Try.ntmps71
  go_wp2
  generalize Lib.bytesWorld w 5 s = W1 at *
  generalize w.heap.size = H at *
  go_loopw [18] (fun i wr => ∃ k : Nat, k ≤ s.size ∧ i = .int .i64 k ∧ (∀ j, j < k → (lowN (byteAt s j) || digN (byteAt s j)) = true) ∧ (0 < k → lowN (byteAt s 0) = true) ∧ W1 = wr) (fun i _ => s.size + 1 - (intOf i).toNat)
  case atStart => exact ⟨0, Nat.zero_le _, rfl, fun j hj => by omega, fun h => by omega, rfl⟩
  case round =>
    obtain ⟨k, hk, rfl, hall, h0, rfl⟩ := hrel
    by_cases hl : k < s.size
    · obtain ⟨b, eb⟩ : ∃ b, byteAt s k = b := ⟨_, rfl⟩
      have hlB : decide ((k : Int) < (s.size : Int)) = true := decide_eq_true (by omega)
      have hlI : (k : Int) < (s.size : Int) := by omega
      have wk1 : IntKind.i64.wrap ((k : Int) + 1) = (k : Int) + 1 := by rw [IntKind.wrap_i64]; omega
      have hc := hcell k hl
      have hb := hbad hl
      have hnext : (lowN (byteAt s k) || digN (byteAt s k)) = true → ∀ j, j < k + 1 → (lowN (byteAt s j) || digN (byteAt s j)) = true := fun h j hj => by
        by_cases c : j = k
        · subst c; exact h
        · exact hall j (by omega)
      have hz : (k = 0 → lowN b = true) → lowN (byteAt s 0) = true := fun h => by
        by_cases c : k = 0
        · subst c; rw [eb]; exact h rfl
        · exact h0 (by omega)
      have hf : k = 0 → lowN b = false → R = false := fun h1 h2 => by
        subst h1; exact hfst (by rw [eb]; exact h2)
      rw [eb] at hc hb hnext
      clear eb hall h0 hcell
      have five : b < 48 ∨ (48 ≤ b ∧ b ≤ 57) ∨ (58 ≤ b ∧ b ≤ 96) ∨ (97 ≤ b ∧ b ≤ 122) ∨ 122 < b := by omega
      rcases five with c | c | c | c | c
      · have d1 : decide (97 ≤ (b : Int)) = false := decide_eq_false (by omega)
        have d2 : decide ((b : Int) ≤ 122) = true := decide_eq_true (by omega)
        have d3 : decide (48 ≤ (b : Int)) = false := decide_eq_false (by omega)
        have d4 : decide ((b : Int) ≤ 57) = true := decide_eq_true (by omega)
        have l1 : lowN b = false := by unfold lowN; simp; omega
        have l2 : digN b = false := by unfold digN; simp; omega
        obtain rfl := hb (by rw [l1, l2]; rfl)
        clear hnext hz hf hb l1 l2
        go_wp2
        go_ret
        exact ⟨rfl, HB.out⟩
      · have d1 : decide (97 ≤ (b : Int)) = false := decide_eq_false (by omega)
        have d2 : decide ((b : Int) ≤ 122) = true := decide_eq_true (by omega)
        have d3 : decide (48 ≤ (b : Int)) = true := decide_eq_true (by omega)
        have d4 : decide ((b : Int) ≤ 57) = true := decide_eq_true (by omega)
        have l1 : lowN b = false := by unfold lowN; simp; omega
        have l2 : digN b = true := by unfold digN; simp; omega
        by_cases k0 : k = 0
        · obtain rfl := hf k0 l1
          subst k0
          clear hnext hz hf hb l1 l2
          go_wp2
          go_ret
          exact ⟨rfl, HB.out⟩
        · have k0B : ((k : Int) == 0) = false := by simp; omega
          have HA := Lib.hid (hnext (by rw [l1, l2]; rfl))
          have HZ := Lib.hid (hz (fun h => by first | exact l1 | omega))
          clear hnext hz hf hb l1 l2
          go_wp2
          go_roundw
          case rel => exact ⟨k + 1, by omega, by go_num, HA.out, fun _ => HZ.out, trivial⟩
          case measure => simp [intOf]; omega
      · have d1 : decide (97 ≤ (b : Int)) = false := decide_eq_false (by omega)
        have d2 : decide ((b : Int) ≤ 122) = true := decide_eq_true (by omega)
        have d3 : decide (48 ≤ (b : Int)) = true := decide_eq_true (by omega)
        have d4 : decide ((b : Int) ≤ 57) = false := decide_eq_false (by omega)
        have l1 : lowN b = false := by unfold lowN; simp; omega
        have l2 : digN b = false := by unfold digN; simp; omega
        obtain rfl := hb (by rw [l1, l2]; rfl)
        clear hnext hz hf hb l1 l2
        go_wp2
        go_ret
        exact ⟨rfl, HB.out⟩
      · have d1 : decide (97 ≤ (b : Int)) = true := decide_eq_true (by omega)
        have d2 : decide ((b : Int) ≤ 122) = true := decide_eq_true (by omega)
        have d3 : decide (48 ≤ (b : Int)) = true := decide_eq_true (by omega)
        have d4 : decide ((b : Int) ≤ 57) = false := decide_eq_false (by omega)
        have l1 : lowN b = true := by unfold lowN; simp; omega
        have l2 : digN b = false := by unfold digN; simp; omega
        have HA := Lib.hid (hnext (by rw [l1, l2]; rfl))
        have HZ := Lib.hid (hz (fun h => by first | exact l1 | omega))
        clear hnext hz hf hb l1 l2
        go_wp2
        go_roundw
        case rel => exact ⟨k + 1, by omega, by go_num, HA.out, fun _ => HZ.out, trivial⟩
        case measure => simp [intOf]; omega
      · have d1 : decide (97 ≤ (b : Int)) = true := decide_eq_true (by omega)
        have d2 : decide ((b : Int) ≤ 122) = false := decide_eq_false (by omega)
        have d3 : decide (48 ≤ (b : Int)) = true := decide_eq_true (by omega)
        have d4 : decide ((b : Int) ≤ 57) = false := decide_eq_false (by omega)
        have l1 : lowN b = false := by unfold lowN; simp; omega
        have l2 : digN b = false := by unfold digN; simp; omega
        obtain rfl := hb (by rw [l1, l2]; rfl)
        clear hnext hz hf hb l1 l2
        go_wp2
        go_ret
        exact ⟨rfl, HB.out⟩
    · have hlB : decide ((k : Int) < (s.size : Int)) = false := decide_eq_false (by omega)
      have HR := Lib.hid (hgood.out (h0 (by omega)) (fun i hi => hall i (by omega)))
      clear hall hgood hbad
      go_wp2
      go_ret
      exact ⟨by rw [HR.out]; rfl, HB.out⟩
end Go.Proofs.Ytkhaephmpifcmaa

namespace Go.Proofs.Ytkhaephmpifcmaa
open Go.RowKit
theorem in_any (v a b : Int) (w : World) :
    Calls Try.prog 74 #[.int .i64 v, .int .i64 a, .int .i64 b] w fun e w' => e = .returned (.bool (inB v a b)) ∧ w = w' := by
  unfold inB
  have hb : decide (a ≤ v) = true ∨ decide (a ≤ v) = false := by cases decide (a ≤ v) <;> simp
  rcases hb with hb | hb
  all_goals
    rw [hb]
    go_enter Try.func74, Try.ntmps74
    go_wp2
    go_ret
    exact ⟨rfl, rfl⟩
set_option maxRecDepth 100000 in
set_option maxHeartbeats 2000000 in
theorem r3right_row (a : Addr) (cap : Nat) (l : List Sec) (h2 : l.length ≤ cap) (h3 : cap ≤ maxLen) (w : World) (h4 : ∀ i s, l[i]? = some s → s.I ∧ SecAt w (a.add (i * 6)) s) :
    Calls Try.prog 60 #[.slice (some a) l.length cap] w fun e w' => e = .returned (.bool (rightS l)) ∧ Q w w' := by
  unfold maxLen at h3
  have h5 : l.length ≤ 2 ^ 63 - 1 := Nat.le_trans h2 h3
  clear h2 h3
  by_cases n1 : l.length < 1
  · rw [rightS_short l n1]
    have n1B : decide ((l.length : Int) < 1) = true := decide_eq_true (by omega)
    clear h4
    go_enter Try.func60, Try.ntmps60
    go_wp2
    go_ret
    exact ⟨rfl, Q.refl w⟩
  have n1B : decide ((l.length : Int) < 1) = false := decide_eq_false (by omega)
  by_cases n2 : 4 < l.length
  · rw [rightS_long l n2]
    have n2B : decide ((4 : Int) < (l.length : Int)) = true := decide_eq_true (by omega)
    clear h4
    go_enter Try.func60, Try.ntmps60
    go_wp2
    go_ret
    exact ⟨rfl, Q.refl w⟩
  have n2B : decide ((4 : Int) < (l.length : Int)) = false := decide_eq_false (by omega)
  go_enter Try.func60, Try.ntmps60
  go_wp2
  go_loopw [3, 4] (fun hh i wr => ∃ (k : Nat), k ≤ l.length ∧ i = .int .i64 k ∧ hh = .int .i64 (hsumI l k) ∧ okTo l k = true ∧ Q w wr) (fun _ i _ => l.length - (intOf i).toNat)
  case atStart => exact ⟨0, Nat.zero_le _, rfl, rfl, rfl, Q.refl w⟩
  case round =>
    obtain ⟨k, hk, rfl, rfl, hok, hq⟩ := hrel
    obtain ⟨t1, t2⟩ := hsum_small l k hok
    have t3 : hsumI l k ≤ 240000 := by omega
    clear t2
    by_cases hl : k < l.length
    · have hlB : decide (k < l.length) = true := decide_eq_true hl
      have hg := List.getElem?_eq_getElem hl
      have hs := (h4 k _ hg).2.keep hq
      have hsu := hsumI_succ l k _ hg
      have hoku := okTo_succ l k _ hg hok
      have hbad := rightS_bad l k _ hg
      clear h4
      generalize l[k] = s at *
      generalize hsumI l k = t at *
      obtain ⟨f0, f1, f2, f3, f4, f5⟩ := hs
      obtain ⟨m, hm1⟩ : ∃ m, s.h.tmod 100 = m := ⟨_, rfl⟩
      have hsec := secOk_eq s m hm1
      have HS := Lib.hid hsu
      have HM := Lib.hid hg
      clear hsu hg
      have c1 := fun w => in_any s.a0 0 20000 w
      have c2 := fun w => in_any s.a1 1 20000 w
      have c3 := fun w => in_any s.b0 0 20000 w
      have c4 := fun w => in_any s.b1 1 20000 w
      have k1 : decide (s.h < 1) = true ∨ decide (s.h < 1) = false := by cases decide (s.h < 1) <;> simp
      rcases k1 with k1 | k1
      · have HB := Lib.hid (hbad (by rw [hsec]; simp [k1]))
        clear hbad hsec hoku
        go_wp2
        go_ret
        exact ⟨by rw [HB.out]; rfl, hq.alloc _ _⟩
      · have k2 : decide (60000 < s.h) = true ∨ decide (60000 < s.h) = false := by cases decide (60000 < s.h) <;> simp
        rcases k2 with k2 | k2
        · have HB := Lib.hid (hbad (by rw [hsec]; simp [k1, k2]))
          clear hbad hsec hoku
          go_wp2
          go_ret
          exact ⟨by rw [HB.out]; rfl, hq.alloc _ _⟩
        · have k3 : (m != 0) = true ∨ (m != 0) = false := by cases (m != 0) <;> simp
          rcases k3 with k3 | k3
          · have HB := Lib.hid (hbad (by rw [hsec]; simp [k1, k2, k3]))
            clear hbad hsec hoku
            go_wp2
            go_ret
            exact ⟨by rw [HB.out]; rfl, hq.alloc _ _⟩
          · have k4 : inB s.a0 0 20000 = true ∨ inB s.a0 0 20000 = false := by cases inB s.a0 0 20000 <;> simp
            rcases k4 with k4 | k4
            · rw [k4] at c1
              have k5 : inB s.a1 1 20000 = true ∨ inB s.a1 1 20000 = false := by cases inB s.a1 1 20000 <;> simp
              rcases k5 with k5 | k5
              · rw [k5] at c2
                have k6 : s.r = true ∨ s.r = false := by cases s.r <;> simp
                rcases k6 with k6 | k6
                · have k7 : (s.b0 != 0) = true ∨ (s.b0 != 0) = false := by cases (s.b0 != 0) <;> simp
                  rcases k7 with k7 | k7
                  · have HB := Lib.hid (hbad (by rw [hsec]; simp [k1, k2, k3, k4, k5, k6, k7]))
                    clear hbad hsec hoku
                    go_wp2_with fail
                    refine (c1 _).mono ?_
                    rintro e w1 ⟨rfl, rfl⟩
                    go_wp2_with fail
                    refine (c2 _).mono ?_
                    rintro e w1 ⟨rfl, rfl⟩
                    go_wp2
                    go_ret
                    exact ⟨by rw [HB.out]; rfl, hq.alloc _ _⟩
                  · have k8 : (s.b1 != 0) = true ∨ (s.b1 != 0) = false := by cases (s.b1 != 0) <;> simp
                    rcases k8 with k8 | k8
                    · have HB := Lib.hid (hbad (by rw [hsec]; simp [k1, k2, k3, k4, k5, k6, k7, k8]))
                      clear hbad hsec hoku
                      go_wp2_with fail
                      refine (c1 _).mono ?_
                      rintro e w1 ⟨rfl, rfl⟩
                      go_wp2_with fail
                      refine (c2 _).mono ?_
                      rintro e w1 ⟨rfl, rfl⟩
                      go_wp2
                      go_ret
                      exact ⟨by rw [HB.out]; rfl, hq.alloc _ _⟩
                    · replace hoku := hoku (by rw [hsec]; simp [k1, k2, k3, k4, k5, k6, k7, k8])
                      obtain ⟨z1, z2⟩ := secOk_h s (by rw [hsec]; simp [k1, k2, k3, k4, k5, k6, k7, k8])
                      clear hbad hsec
                      have HO := Lib.hid hoku
                      clear hoku
                      go_wp2_with fail
                      refine (c1 _).mono ?_
                      rintro e w1 ⟨rfl, rfl⟩
                      go_wp2_with fail
                      refine (c2 _).mono ?_
                      rintro e w1 ⟨rfl, rfl⟩
                      go_wp2
                      go_roundw
                      case rel => exact ⟨k + 1, by omega, by go_num, by rw [HS.out], HO.out, hq.alloc _ _⟩
                      case measure => simp [intOf]; omega
                · have k9 : inB s.b0 0 20000 = true ∨ inB s.b0 0 20000 = false := by cases inB s.b0 0 20000 <;> simp
                  rcases k9 with k9 | k9
                  · rw [k9] at c3
                    have ka : inB s.b1 1 20000 = true ∨ inB s.b1 1 20000 = false := by cases inB s.b1 1 20000 <;> simp
                    rcases ka with ka | ka
                    · rw [ka] at c4
                      replace hoku := hoku (by rw [hsec]; simp [k1, k2, k3, k4, k5, k6, k9, ka])
                      obtain ⟨z1, z2⟩ := secOk_h s (by rw [hsec]; simp [k1, k2, k3, k4, k5, k6, k9, ka])
                      clear hbad hsec
                      have HO := Lib.hid hoku
                      clear hoku
                      go_wp2_with fail
                      refine (c1 _).mono ?_
                      rintro e w1 ⟨rfl, rfl⟩
                      go_wp2_with fail
                      refine (c2 _).mono ?_
                      rintro e w1 ⟨rfl, rfl⟩
                      go_wp2_with fail
                      refine (c3 _).mono ?_
                      rintro e w1 ⟨rfl, rfl⟩
                      go_wp2_with fail
                      refine (c4 _).mono ?_
                      rintro e w1 ⟨rfl, rfl⟩
                      go_wp2
                      go_roundw
                      case rel => exact ⟨k + 1, by omega, by go_num, by rw [HS.out], HO.out, hq.alloc _ _⟩
                      case measure => simp [intOf]; omega
                    · rw [ka] at c4
                      have HB := Lib.hid (hbad (by rw [hsec]; simp [k1, k2, k3, k4, k5, k6, k9, ka]))
                      clear hbad hsec hoku
                      go_wp2_with fail
                      refine (c1 _).mono ?_
                      rintro e w1 ⟨rfl, rfl⟩
                      go_wp2_with fail
                      refine (c2 _).mono ?_
                      rintro e w1 ⟨rfl, rfl⟩
                      go_wp2_with fail
                      refine (c3 _).mono ?_
                      rintro e w1 ⟨rfl, rfl⟩
                      go_wp2_with fail
                      refine (c4 _).mono ?_
                      rintro e w1 ⟨rfl, rfl⟩
                      go_wp2
                      go_ret
                      exact ⟨by rw [HB.out]; rfl, hq.alloc _ _⟩
                  · rw [k9] at c3
                    have HB := Lib.hid (hbad (by rw [hsec]; simp [k1, k2, k3, k4, k5, k6, k9]))
                    clear hbad hsec hoku
                    go_wp2_with fail
                    refine (c1 _).mono ?_
                    rintro e w1 ⟨rfl, rfl⟩
                    go_wp2_with fail
                    refine (c2 _).mono ?_
                    rintro e w1 ⟨rfl, rfl⟩
                    go_wp2_with fail
                    refine (c3 _).mono ?_
                    rintro e w1 ⟨rfl, rfl⟩
                    go_wp2
                    go_ret
                    exact ⟨by rw [HB.out]; rfl, hq.alloc _ _⟩
              · rw [k5] at c2
                have HB := Lib.hid (hbad (by rw [hsec]; simp [k1, k2, k3, k4, k5]))
                clear hbad hsec hoku
                go_wp2_with fail
                refine (c1 _).mono ?_
                rintro e w1 ⟨rfl, rfl⟩
                go_wp2_with fail
                refine (c2 _).mono ?_
                rintro e w1 ⟨rfl, rfl⟩
                go_wp2
                go_ret
                exact ⟨by rw [HB.out]; rfl, hq.alloc _ _⟩
            · rw [k4] at c1
              have HB := Lib.hid (hbad (by rw [hsec]; simp [k1, k2, k3, k4]))
              clear hbad hsec hoku
              go_wp2_with fail
              refine (c1 _).mono ?_
              rintro e w1 ⟨rfl, rfl⟩
              go_wp2
              go_ret
              exact ⟨by rw [HB.out]; rfl, hq.alloc _ _⟩
    · have hlB : decide (k < l.length) = false := decide_eq_false hl
      obtain rfl : k = l.length := by omega
      have HE := Lib.hid (rightS_end l (by omega) (by omega) hok)
      clear h4 hok
      go_wp2
      go_ret
      exact ⟨by rw [HE.out]; rfl, hq⟩
theorem r3right_any (v : Value) (l : List Sec) (w : World) (hv : IsSecs w v l) :
    Calls Try.prog 60 #[v] w fun e w' => e = .returned (.bool (rightS l)) ∧ Q w w' := by
  rcases hv with ⟨rfl, rfl⟩ | ⟨a, cap, rfl, h2, h3, h4⟩
  · rw [rightS_short [] (by simp)]
    go_enter Try.func60, Try.ntmps60
    go_wp2
    go_ret
    exact ⟨rfl, Q.refl w⟩
  · exact r3right_row a cap l h2 h3 w h4
end Go.Proofs.Ytkhaephmpifcmaa

namespace Go.Proofs.Ytkhaephmpifcmaa
open Go.RowKit
theorem r8in_any (v a b : Int) (w : World) :
    Calls Try.prog 59 #[.int .i64 v, .int .i64 a, .int .i64 b] w fun e w' => e = .returned (.bool (inB v a b)) ∧ w = w' := by
  unfold inB
  have hb : decide (a ≤ v) = true ∨ decide (a ≤ v) = false := by cases decide (a ≤ v) <;> simp
  rcases hb with hb | hb
  all_goals
    go_enter Try.func59, Try.ntmps59
    go_wp2
    go_ret
    exact ⟨by simp [hb], rfl⟩
end Go.Proofs.Ytkhaephmpifcmaa

namespace Go.Proofs.Ytkhaephmpifcmaa
open Go.RowKit
def tipB (s : ByteArray) (cap filt err : Int) (l : List Sec) : Bool := rightS l && inB cap 1 20000000 && inB filt 1 60000 && inB err 0 10000 && nameS s
theorem r8tipright_any (s : ByteArray) (cap filt err : Int) (v : Value) (l : List Sec) (w : World) (hv : IsSecs w v l) :
    Calls Try.prog 61 #[.agg #[.string s, .int .i64 cap, .int .i64 filt, .int .i64 err, v]] w fun e w' => e = .returned (.bool (tipB s cap filt err l)) ∧ B w w' := by
  obtain ⟨ao, nn, cc, rfl⟩ := hv.form
  have HV := Lib.hid hv
  clear hv
  have cl := fun w h => r3right_any (.slice ao nn cc) l w h
  have cc_ := fun w => r8in_any cap 1 20000000 w
  have cf := fun w => r8in_any filt 1 60000 w
  have ce := fun w => r8in_any err 0 10000 w
  have cn := fun w => r8name_any s w
  unfold tipB
  have kc : ∀ w', B (w.alloc (.cells #[.string s, .int .i64 cap, .int .i64 filt, .int .i64 err, .slice ao nn cc] 116)) w' → B w w' := fun w' q => ((B.refl w).alloc _ _).trans q
  generalize rightS l = bl at *
  generalize inB cap 1 20000000 = bc at *
  generalize inB filt 1 60000 = bf at *
  generalize inB err 0 10000 = be at *
  generalize nameS s = bn at *
  cases bn
  · go_enter Try.func61, Try.ntmps61
    go_wp2_with fail
    have k0 : (w.alloc (.cells #[.string s, .int .i64 cap, .int .i64 filt, .int .i64 err, .slice ao nn cc] 116)).cell? ⟨w.heap.size, 0, none⟩ = some (.string s) := by simp [go_sem]
    have k1 : (w.alloc (.cells #[.string s, .int .i64 cap, .int .i64 filt, .int .i64 err, .slice ao nn cc] 116)).cell? ⟨w.heap.size, 1, none⟩ = some (.int .i64 cap) := by simp [go_sem]
    have k2 : (w.alloc (.cells #[.string s, .int .i64 cap, .int .i64 filt, .int .i64 err, .slice ao nn cc] 116)).cell? ⟨w.heap.size, 2, none⟩ = some (.int .i64 filt) := by simp [go_sem]
    have k3 : (w.alloc (.cells #[.string s, .int .i64 cap, .int .i64 filt, .int .i64 err, .slice ao nn cc] 116)).cell? ⟨w.heap.size, 3, none⟩ = some (.int .i64 err) := by simp [go_sem]
    have k4 : (w.alloc (.cells #[.string s, .int .i64 cap, .int .i64 filt, .int .i64 err, .slice ao nn cc] 116)).cell? ⟨w.heap.size, 4, none⟩ = some (.slice ao nn cc) := by simp [go_sem]
    have hv := HV.out.keepB ((B.refl w).alloc #[.string s, .int .i64 cap, .int .i64 filt, .int .i64 err, .slice ao nn cc] 116)
    have g := (B.refl w).alloc #[.string s, .int .i64 cap, .int .i64 filt, .int .i64 err, .slice ao nn cc] 116
    generalize w.alloc (.cells #[.string s, .int .i64 cap, .int .i64 filt, .int .i64 err, .slice ao nn cc] 116) = W at *
    refine (cn _).mono ?_
    rintro e w1 ⟨rfl, rfl⟩
    go_wp2
    go_ret
    exact ⟨by simp, g⟩
  cases bl
  · go_enter Try.func61, Try.ntmps61
    go_wp2_with fail
    have k0 : (w.alloc (.cells #[.string s, .int .i64 cap, .int .i64 filt, .int .i64 err, .slice ao nn cc] 116)).cell? ⟨w.heap.size, 0, none⟩ = some (.string s) := by simp [go_sem]
    have k1 : (w.alloc (.cells #[.string s, .int .i64 cap, .int .i64 filt, .int .i64 err, .slice ao nn cc] 116)).cell? ⟨w.heap.size, 1, none⟩ = some (.int .i64 cap) := by simp [go_sem]
    have k2 : (w.alloc (.cells #[.string s, .int .i64 cap, .int .i64 filt, .int .i64 err, .slice ao nn cc] 116)).cell? ⟨w.heap.size, 2, none⟩ = some (.int .i64 filt) := by simp [go_sem]
    have k3 : (w.alloc (.cells #[.string s, .int .i64 cap, .int .i64 filt, .int .i64 err, .slice ao nn cc] 116)).cell? ⟨w.heap.size, 3, none⟩ = some (.int .i64 err) := by simp [go_sem]
    have k4 : (w.alloc (.cells #[.string s, .int .i64 cap, .int .i64 filt, .int .i64 err, .slice ao nn cc] 116)).cell? ⟨w.heap.size, 4, none⟩ = some (.slice ao nn cc) := by simp [go_sem]
    have hv := HV.out.keepB ((B.refl w).alloc #[.string s, .int .i64 cap, .int .i64 filt, .int .i64 err, .slice ao nn cc] 116)
    have g := (B.refl w).alloc #[.string s, .int .i64 cap, .int .i64 filt, .int .i64 err, .slice ao nn cc] 116
    generalize w.alloc (.cells #[.string s, .int .i64 cap, .int .i64 filt, .int .i64 err, .slice ao nn cc] 116) = W at *
    refine (cn _).mono ?_
    rintro e w1 ⟨rfl, rfl⟩
    go_wp2_with fail
    refine (cl _ hv).mono ?_
    rintro e w3 ⟨rfl, q⟩
    replace q := q.b
    replace k0 := q.keep k0
    replace k1 := q.keep k1
    replace k2 := q.keep k2
    replace k3 := q.keep k3
    replace k4 := q.keep k4
    replace hv := hv.keepB q
    replace g := g.trans q
    clear q
    go_wp2
    go_ret
    exact ⟨by simp, g⟩
  cases bc
  · go_enter Try.func61, Try.ntmps61
    go_wp2_with fail
    have k0 : (w.alloc (.cells #[.string s, .int .i64 cap, .int .i64 filt, .int .i64 err, .slice ao nn cc] 116)).cell? ⟨w.heap.size, 0, none⟩ = some (.string s) := by simp [go_sem]
    have k1 : (w.alloc (.cells #[.string s, .int .i64 cap, .int .i64 filt, .int .i64 err, .slice ao nn cc] 116)).cell? ⟨w.heap.size, 1, none⟩ = some (.int .i64 cap) := by simp [go_sem]
    have k2 : (w.alloc (.cells #[.string s, .int .i64 cap, .int .i64 filt, .int .i64 err, .slice ao nn cc] 116)).cell? ⟨w.heap.size, 2, none⟩ = some (.int .i64 filt) := by simp [go_sem]
    have k3 : (w.alloc (.cells #[.string s, .int .i64 cap, .int .i64 filt, .int .i64 err, .slice ao nn cc] 116)).cell? ⟨w.heap.size, 3, none⟩ = some (.int .i64 err) := by simp [go_sem]
    have k4 : (w.alloc (.cells #[.string s, .int .i64 cap, .int .i64 filt, .int .i64 err, .slice ao nn cc] 116)).cell? ⟨w.heap.size, 4, none⟩ = some (.slice ao nn cc) := by simp [go_sem]
    have hv := HV.out.keepB ((B.refl w).alloc #[.string s, .int .i64 cap, .int .i64 filt, .int .i64 err, .slice ao nn cc] 116)
    have g := (B.refl w).alloc #[.string s, .int .i64 cap, .int .i64 filt, .int .i64 err, .slice ao nn cc] 116
    generalize w.alloc (.cells #[.string s, .int .i64 cap, .int .i64 filt, .int .i64 err, .slice ao nn cc] 116) = W at *
    refine (cn _).mono ?_
    rintro e w1 ⟨rfl, rfl⟩
    go_wp2_with fail
    refine (cl _ hv).mono ?_
    rintro e w3 ⟨rfl, q⟩
    replace q := q.b
    replace k0 := q.keep k0
    replace k1 := q.keep k1
    replace k2 := q.keep k2
    replace k3 := q.keep k3
    replace k4 := q.keep k4
    replace hv := hv.keepB q
    replace g := g.trans q
    clear q
    go_wp2_with fail
    refine (cc_ _).mono ?_
    rintro e w1 ⟨rfl, rfl⟩
    go_wp2
    go_ret
    exact ⟨by simp, g⟩
  cases bf
  · go_enter Try.func61, Try.ntmps61
    go_wp2_with fail
    have k0 : (w.alloc (.cells #[.string s, .int .i64 cap, .int .i64 filt, .int .i64 err, .slice ao nn cc] 116)).cell? ⟨w.heap.size, 0, none⟩ = some (.string s) := by simp [go_sem]
    have k1 : (w.alloc (.cells #[.string s, .int .i64 cap, .int .i64 filt, .int .i64 err, .slice ao nn cc] 116)).cell? ⟨w.heap.size, 1, none⟩ = some (.int .i64 cap) := by simp [go_sem]
    have k2 : (w.alloc (.cells #[.string s, .int .i64 cap, .int .i64 filt, .int .i64 err, .slice ao nn cc] 116)).cell? ⟨w.heap.size, 2, none⟩ = some (.int .i64 filt) := by simp [go_sem]
    have k3 : (w.alloc (.cells #[.string s, .int .i64 cap, .int .i64 filt, .int .i64 err, .slice ao nn cc] 116)).cell? ⟨w.heap.size, 3, none⟩ = some (.int .i64 err) := by simp [go_sem]
    have k4 : (w.alloc (.cells #[.string s, .int .i64 cap, .int .i64 filt, .int .i64 err, .slice ao nn cc] 116)).cell? ⟨w.heap.size, 4, none⟩ = some (.slice ao nn cc) := by simp [go_sem]
    have hv := HV.out.keepB ((B.refl w).alloc #[.string s, .int .i64 cap, .int .i64 filt, .int .i64 err, .slice ao nn cc] 116)
    have g := (B.refl w).alloc #[.string s, .int .i64 cap, .int .i64 filt, .int .i64 err, .slice ao nn cc] 116
    generalize w.alloc (.cells #[.string s, .int .i64 cap, .int .i64 filt, .int .i64 err, .slice ao nn cc] 116) = W at *
    refine (cn _).mono ?_
    rintro e w1 ⟨rfl, rfl⟩
    go_wp2_with fail
    refine (cl _ hv).mono ?_
    rintro e w3 ⟨rfl, q⟩
    replace q := q.b
    replace k0 := q.keep k0
    replace k1 := q.keep k1
    replace k2 := q.keep k2
    replace k3 := q.keep k3
    replace k4 := q.keep k4
    replace hv := hv.keepB q
    replace g := g.trans q
    clear q
    go_wp2_with fail
    refine (cc_ _).mono ?_
    rintro e w1 ⟨rfl, rfl⟩
    go_wp2_with fail
    refine (cf _).mono ?_
    rintro e w1 ⟨rfl, rfl⟩
    go_wp2
    go_ret
    exact ⟨by simp, g⟩
  cases be
  · go_enter Try.func61, Try.ntmps61
    go_wp2_with fail
    have k0 : (w.alloc (.cells #[.string s, .int .i64 cap, .int .i64 filt, .int .i64 err, .slice ao nn cc] 116)).cell? ⟨w.heap.size, 0, none⟩ = some (.string s) := by simp [go_sem]
    have k1 : (w.alloc (.cells #[.string s, .int .i64 cap, .int .i64 filt, .int .i64 err, .slice ao nn cc] 116)).cell? ⟨w.heap.size, 1, none⟩ = some (.int .i64 cap) := by simp [go_sem]
    have k2 : (w.alloc (.cells #[.string s, .int .i64 cap, .int .i64 filt, .int .i64 err, .slice ao nn cc] 116)).cell? ⟨w.heap.size, 2, none⟩ = some (.int .i64 filt) := by simp [go_sem]
    have k3 : (w.alloc (.cells #[.string s, .int .i64 cap, .int .i64 filt, .int .i64 err, .slice ao nn cc] 116)).cell? ⟨w.heap.size, 3, none⟩ = some (.int .i64 err) := by simp [go_sem]
    have k4 : (w.alloc (.cells #[.string s, .int .i64 cap, .int .i64 filt, .int .i64 err, .slice ao nn cc] 116)).cell? ⟨w.heap.size, 4, none⟩ = some (.slice ao nn cc) := by simp [go_sem]
    have hv := HV.out.keepB ((B.refl w).alloc #[.string s, .int .i64 cap, .int .i64 filt, .int .i64 err, .slice ao nn cc] 116)
    have g := (B.refl w).alloc #[.string s, .int .i64 cap, .int .i64 filt, .int .i64 err, .slice ao nn cc] 116
    generalize w.alloc (.cells #[.string s, .int .i64 cap, .int .i64 filt, .int .i64 err, .slice ao nn cc] 116) = W at *
    refine (cn _).mono ?_
    rintro e w1 ⟨rfl, rfl⟩
    go_wp2_with fail
    refine (cl _ hv).mono ?_
    rintro e w3 ⟨rfl, q⟩
    replace q := q.b
    replace k0 := q.keep k0
    replace k1 := q.keep k1
    replace k2 := q.keep k2
    replace k3 := q.keep k3
    replace k4 := q.keep k4
    replace hv := hv.keepB q
    replace g := g.trans q
    clear q
    go_wp2_with fail
    refine (cc_ _).mono ?_
    rintro e w1 ⟨rfl, rfl⟩
    go_wp2_with fail
    refine (cf _).mono ?_
    rintro e w1 ⟨rfl, rfl⟩
    go_wp2_with fail
    refine (ce _).mono ?_
    rintro e w1 ⟨rfl, rfl⟩
    go_wp2
    go_ret
    exact ⟨by simp, g⟩
  · go_enter Try.func61, Try.ntmps61
    go_wp2_with fail
    have k0 : (w.alloc (.cells #[.string s, .int .i64 cap, .int .i64 filt, .int .i64 err, .slice ao nn cc] 116)).cell? ⟨w.heap.size, 0, none⟩ = some (.string s) := by simp [go_sem]
    have k1 : (w.alloc (.cells #[.string s, .int .i64 cap, .int .i64 filt, .int .i64 err, .slice ao nn cc] 116)).cell? ⟨w.heap.size, 1, none⟩ = some (.int .i64 cap) := by simp [go_sem]
    have k2 : (w.alloc (.cells #[.string s, .int .i64 cap, .int .i64 filt, .int .i64 err, .slice ao nn cc] 116)).cell? ⟨w.heap.size, 2, none⟩ = some (.int .i64 filt) := by simp [go_sem]
    have k3 : (w.alloc (.cells #[.string s, .int .i64 cap, .int .i64 filt, .int .i64 err, .slice ao nn cc] 116)).cell? ⟨w.heap.size, 3, none⟩ = some (.int .i64 err) := by simp [go_sem]
    have k4 : (w.alloc (.cells #[.string s, .int .i64 cap, .int .i64 filt, .int .i64 err, .slice ao nn cc] 116)).cell? ⟨w.heap.size, 4, none⟩ = some (.slice ao nn cc) := by simp [go_sem]
    have hv := HV.out.keepB ((B.refl w).alloc #[.string s, .int .i64 cap, .int .i64 filt, .int .i64 err, .slice ao nn cc] 116)
    have g := (B.refl w).alloc #[.string s, .int .i64 cap, .int .i64 filt, .int .i64 err, .slice ao nn cc] 116
    generalize w.alloc (.cells #[.string s, .int .i64 cap, .int .i64 filt, .int .i64 err, .slice ao nn cc] 116) = W at *
    refine (cn _).mono ?_
    rintro e w1 ⟨rfl, rfl⟩
    go_wp2_with fail
    refine (cl _ hv).mono ?_
    rintro e w3 ⟨rfl, q⟩
    replace q := q.b
    replace k0 := q.keep k0
    replace k1 := q.keep k1
    replace k2 := q.keep k2
    replace k3 := q.keep k3
    replace k4 := q.keep k4
    replace hv := hv.keepB q
    replace g := g.trans q
    clear q
    go_wp2_with fail
    refine (cc_ _).mono ?_
    rintro e w1 ⟨rfl, rfl⟩
    go_wp2_with fail
    refine (cf _).mono ?_
    rintro e w1 ⟨rfl, rfl⟩
    go_wp2_with fail
    refine (ce _).mono ?_
    rintro e w1 ⟨rfl, rfl⟩
    go_wp2
    go_ret
    exact ⟨by simp, g⟩
end Go.Proofs.Ytkhaephmpifcmaa

namespace Go.Proofs.Ytkhaephmpifcmaa
open Go.RowKit
/-- Its sides are bounded. -/
def boundS (s : Sec) : Bool := inB s.a0 0 20000 && inB s.b0 0 20000 && inB s.a1 0 20000 && inB s.b1 0 20000
def sideNo (s : Sec) (k : Nat) : Int := [s.a0, s.b0, s.a1, s.b1].getD k 0
theorem inB_ways (x : Int) : (inB x 0 20000 = true ∧ decide (x < 0) = false ∧ decide (20000 < x) = false) ∨ (inB x 0 20000 = false ∧ decide (x < 0) = true) ∨ (inB x 0 20000 = false ∧ decide (x < 0) = false ∧ decide (20000 < x) = true) := by
  unfold inB
  by_cases h1 : x < 0
  · exact .inr (.inl ⟨by simp; omega, decide_eq_true h1⟩)
  · by_cases h2 : 20000 < x
    · exact .inr (.inr ⟨by simp; omega, decide_eq_false h1, decide_eq_true h2⟩)
    · exact .inl ⟨by simp; omega, decide_eq_false h1, decide_eq_false h2⟩
theorem boundS_no (s : Sec) (k : Nat) (hk : k < 4) (h : inB (sideNo s k) 0 20000 = false) : boundS s = false := by
  unfold boundS
  match k, hk with
  | 0, _ => have h' : inB s.a0 0 20000 = false := h; rw [h']; simp
  | 1, _ => have h' : inB s.b0 0 20000 = false := h; rw [h']; simp
  | 2, _ => have h' : inB s.a1 0 20000 = false := h; rw [h']; simp
  | 3, _ => have h' : inB s.b1 0 20000 = false := h; rw [h']; simp
theorem boundS_yes (s : Sec) (h : ∀ j, j < 4 → inB (sideNo s j) 0 20000 = true) : boundS s = true := by
  unfold boundS
  have h0 : inB s.a0 0 20000 = true := h 0 (by omega)
  have h1 : inB s.b0 0 20000 = true := h 1 (by omega)
  have h2 : inB s.a1 0 20000 = true := h 2 (by omega)
  have h3 : inB s.b1 0 20000 = true := h 3 (by omega)
  rw [h0, h1, h2, h3]; rfl
/-- A place of an array of four numbers. -/
theorem arr4_get (x : Nat → Int) (k : Nat) (hk : k < 4) (w : World) : (Instr.index 166 (Value.agg #[.int .i64 (x 0), .int .i64 (x 1), .int .i64 (x 2), .int .i64 (x 3)]) (Value.int .i64 (k : Int))).run Try.prog w = .ok (.int .i64 (x k)) w := by
  have hu : Try.prog.underlying 166 = some (.array 4 2) := by kernel_rfl
  match k, hk with
  | 0, _ => simp [Instr.index, run_underlying hu, asIntOf, part, go_sem]
  | 1, _ => simp [Instr.index, run_underlying hu, asIntOf, part, go_sem]
  | 2, _ => simp [Instr.index, run_underlying hu, asIntOf, part, go_sem]
  | 3, _ => simp [Instr.index, run_underlying hu, asIntOf, part, go_sem]
set_option maxHeartbeats 1000000 in
theorem bounded_any (r : Bool) (h a0 b0 a1 b1 : Int) (w : World) :
    Calls Try.prog 78 #[.agg #[.bool r, .int .i64 h, .int .i64 a0, .int .i64 b0, .int .i64 a1, .int .i64 b1]] w fun e w' => e = .returned (.bool (boundS ⟨r, h, a0, b0, a1, b1⟩)) ∧ Q w w' := by
  have hno := boundS_no ⟨r, h, a0, b0, a1, b1⟩
  have hyes := boundS_yes ⟨r, h, a0, b0, a1, b1⟩
  have hg := fun k hk w => arr4_get (sideNo ⟨r, h, a0, b0, a1, b1⟩) k hk w
  change ∀ k : Nat, k < 4 → ∀ w : World, (Instr.index 166 (Value.agg #[.int .i64 a0, .int .i64 b0, .int .i64 a1, .int .i64 b1]) (Value.int .i64 (k : Int))).run Try.prog w = .ok (.int .i64 (sideNo ⟨r, h, a0, b0, a1, b1⟩ k)) w at hg
  generalize hB : boundS ⟨r, h, a0, b0, a1, b1⟩ = B0 at *
  clear hB
  go_enter Try.func78, Try.ntmps78
  go_wp2
  have hq := (Q.refl w).alloc #[.bool r, .int .i64 h, .int .i64 a0, .int .i64 b0, .int .i64 a1, .int .i64 b1] 91
  generalize w.alloc _ = W1 at *
  go_loop [14] (fun i => ∃ k : Nat, k ≤ 4 ∧ i = .int .i64 k ∧ ∀ j, j < k → inB (sideNo ⟨r, h, a0, b0, a1, b1⟩ j) 0 20000 = true) (fun i => 4 - (intOf i).toNat)
  case atStart => exact ⟨0, Nat.zero_le _, rfl, fun j hj => absurd hj (by omega)⟩
  case round =>
    obtain ⟨k, hk, rfl, hall⟩ := hrel
    by_cases hl : k < 4
    · have hlB : decide ((k : Int) < 4) = true := decide_eq_true (by omega)
      have ho := hno k hl
      have hx := hg k hl
      have hw := inB_ways (sideNo ⟨r, h, a0, b0, a1, b1⟩ k)
      have hn : inB (sideNo ⟨r, h, a0, b0, a1, b1⟩ k) 0 20000 = true → ∀ j, j < k + 1 → inB (sideNo ⟨r, h, a0, b0, a1, b1⟩ j) 0 20000 = true := fun hk j hj => by
        by_cases e : j = k
        · rw [e]; exact hk
        · exact hall j (by omega)
      clear hall hno hyes hg
      rcases hw with ⟨e0, e1, e2⟩ | ⟨e0, e1⟩ | ⟨e0, e1, e2⟩
      · have HN := Lib.hid (hn e0)
        clear hn ho
        go_wp2
        go_round
        case rel => exact ⟨k + 1, by omega, by go_num, HN.out⟩
        case measure => simp [intOf]; omega
      · have HO := Lib.hid (ho e0)
        clear hn ho
        go_wp2
        go_ret
        exact ⟨by rw [HO.out]; rfl, hq⟩
      · have HO := Lib.hid (ho e0)
        clear hn ho
        go_wp2
        go_ret
        exact ⟨by rw [HO.out]; rfl, hq⟩
    · have hlB : decide ((k : Int) < 4) = false := decide_eq_false (by omega)
      obtain rfl : k = 4 := by omega
      have HY := Lib.hid (hyes hall)
      clear hno hyes hg hall
      go_wp2
      go_ret
      exact ⟨by rw [HY.out]; rfl, hq⟩
end Go.Proofs.Ytkhaephmpifcmaa

namespace Go.Proofs.Ytkhaephmpifcmaa
open Go.RowKit
def RightC : Prop := ∀ (v : Value) (l : List Sec) (w : World), IsSecs w v l → Calls Try.prog 49 #[v] w fun e w' => e = .returned (.bool (rightS l)) ∧ B w w'
/-- Its sides are those of a piece. -/
def soundS (s : Sec) : Bool := boundS s && (s.a1 != 0) && (if s.r then (s.b0 == 0) && (s.b1 == 0) else decide (0 < s.b1))
set_option maxHeartbeats 1000000 in
theorem sound_any (r : Bool) (h a0 b0 a1 b1 : Int) (w : World) :
    Calls Try.prog 69 #[.agg #[.bool r, .int .i64 h, .int .i64 a0, .int .i64 b0, .int .i64 a1, .int .i64 b1]] w fun e w' => e = .returned (.bool (soundS ⟨r, h, a0, b0, a1, b1⟩)) ∧ Q w w' := by
  have cB := fun w => bounded_any r h a0 b0 a1 b1 w
  have hS : soundS ⟨r, h, a0, b0, a1, b1⟩ = (boundS ⟨r, h, a0, b0, a1, b1⟩ && (a1 != 0) && (if r then (b0 == 0) && (b1 == 0) else decide (0 < b1))) := rfl
  generalize boundS ⟨r, h, a0, b0, a1, b1⟩ = B0 at *
  rw [hS]
  clear hS
  have hA : ((a1 == 0) = true ∧ (a1 != 0) = false) ∨ ((a1 == 0) = false ∧ (a1 != 0) = true) := by by_cases a1 = 0 <;> simp [*]
  have hZ : (b0 == 0) = true ∨ (b0 == 0) = false := by cases (b0 == 0) <;> simp
  cases B0
  · simp only [Bool.false_and]
    go_enter Try.func69, Try.ntmps69
    go_wp2_with fail
    refine (cB _).mono ?_
    rintro e w1 ⟨rfl, g⟩
    replace g := ((Q.refl w).alloc _ _).trans g
    go_wp2
    go_ret
    exact ⟨rfl, g⟩
  rcases hA with ⟨a2, a3⟩ | ⟨a2, a3⟩
  · rw [a3]
    simp only [Bool.false_and, Bool.and_false]
    go_enter Try.func69, Try.ntmps69
    go_wp2_with fail
    refine (cB _).mono ?_
    rintro e w1 ⟨rfl, g⟩
    have z4 := g.keep (p := ⟨w.heap.size, 4, none⟩) (v := .int .i64 a1) (by simp [go_sem])
    replace g := ((Q.refl w).alloc _ _).trans g
    go_wp2
    go_ret
    exact ⟨rfl, g⟩
  rw [a3]
  cases r
  · go_enter Try.func69, Try.ntmps69
    go_wp2_with fail
    refine (cB _).mono ?_
    rintro e w1 ⟨rfl, g⟩
    have z0 := g.keep (p := ⟨w.heap.size, 0, none⟩) (v := .bool false) (by simp [go_sem])
    have z1 := g.keep (p := ⟨w.heap.size, 1, none⟩) (v := .int .i64 h) (by simp [go_sem])
    have z2 := g.keep (p := ⟨w.heap.size, 2, none⟩) (v := .int .i64 a0) (by simp [go_sem])
    have z3 := g.keep (p := ⟨w.heap.size, 3, none⟩) (v := .int .i64 b0) (by simp [go_sem])
    have z4 := g.keep (p := ⟨w.heap.size, 4, none⟩) (v := .int .i64 a1) (by simp [go_sem])
    have z5 := g.keep (p := ⟨w.heap.size, 5, none⟩) (v := .int .i64 b1) (by simp [go_sem])
    replace g := ((Q.refl w).alloc _ _).trans g
    go_wp2
    go_ret
    exact ⟨by simp, g⟩
  rcases hZ with hZ | hZ
  all_goals
    rw [hZ]
    go_enter Try.func69, Try.ntmps69
    go_wp2_with fail
    refine (cB _).mono ?_
    rintro e w1 ⟨rfl, g⟩
    have z0 := g.keep (p := ⟨w.heap.size, 0, none⟩) (v := .bool true) (by simp [go_sem])
    have z1 := g.keep (p := ⟨w.heap.size, 1, none⟩) (v := .int .i64 h) (by simp [go_sem])
    have z2 := g.keep (p := ⟨w.heap.size, 2, none⟩) (v := .int .i64 a0) (by simp [go_sem])
    have z3 := g.keep (p := ⟨w.heap.size, 3, none⟩) (v := .int .i64 b0) (by simp [go_sem])
    have z4 := g.keep (p := ⟨w.heap.size, 4, none⟩) (v := .int .i64 a1) (by simp [go_sem])
    have z5 := g.keep (p := ⟨w.heap.size, 5, none⟩) (v := .int .i64 b1) (by simp [go_sem])
    replace g := ((Q.refl w).alloc _ _).trans g
    go_wp2
    go_ret
    exact ⟨by simp, g⟩
theorem secOk_sound (s : Sec) (m : Int) (hm : s.h.tmod 100 = m) : secOk s = (!(decide (s.h < 1)) && !(decide (60000 < s.h)) && !(m != 0) && soundS s) := by
  rw [secOk_eq s m hm]
  have e : soundS s = (inB s.a0 0 20000 && inB s.a1 1 20000 && (if s.r then !(s.b0 != 0) && !(s.b1 != 0) else inB s.b0 0 20000 && inB s.b1 1 20000)) := by
    unfold soundS boundS inB
    cases hr : s.r
    · rw [Bool.eq_iff_iff]
      simp
      omega
    · rw [Bool.eq_iff_iff]
      simp
      omega
  rw [e]
  simp only [Bool.and_assoc]
theorem hsum_mono (l : List Sec) (hl : ∀ s ∈ l, 0 ≤ s.h) (j n : Nat) (hjn : j ≤ n) : hsumI l j ≤ hsumI l n := by
  induction n with
  | zero => obtain rfl : j = 0 := by omega
            omega
  | succ n ih =>
    by_cases e : j = n + 1
    · subst e; omega
    · have h1 := ih (by omega)
      cases hg : l[n]? with
      | none =>
        have e1 : l.take (n + 1) = l.take n := by rw [List.take_add_one, hg]; simp
        unfold hsumI at *
        rw [e1]; exact h1
      | some s =>
        have := hl s (List.mem_of_getElem? hg)
        rw [hsumI_succ l n s hg]
        omega
theorem rightS_over (l : List Sec) (k : Nat) (s : Sec) (h : l[k]? = some s) (ho : 60000 < hsumI l k + s.h) : rightS l = false := by
  cases e : rightS l
  · rfl
  · unfold rightS at e
    simp only [Bool.and_eq_true, decide_eq_true_eq, List.all_eq_true] at e
    obtain ⟨⟨_, ha⟩, hs⟩ := e
    have hk : k < l.length := by
      rw [List.getElem?_eq_some_iff] at h
      exact h.1
    have := hsum_mono l (fun s hs => by have := secOk_h s (ha s hs); omega) (k + 1) l.length (by omega)
    rw [hsumI_succ l k s h] at this
    omega
set_option maxRecDepth 100000 in
set_option maxHeartbeats 2000000 in
theorem right_row (a : Addr) (cap : Nat) (l : List Sec) (h2 : l.length ≤ cap) (h3 : cap ≤ maxLen) (w : World) (h4 : ∀ i s, l[i]? = some s → s.I ∧ SecAt w (a.add (i * 6)) s) :
    Calls Try.prog 49 #[.slice (some a) l.length cap] w fun e w' => e = .returned (.bool (rightS l)) ∧ Q w w' := by
  unfold maxLen at h3
  have h5 : l.length ≤ 2 ^ 63 - 1 := Nat.le_trans h2 h3
  clear h2 h3
  by_cases n1 : l.length < 1
  · rw [rightS_short l n1]
    have n1B : decide ((l.length : Int) < 1) = true := decide_eq_true (by omega)
    clear h4
    go_enter Try.func49, Try.ntmps49
    go_wp2
    go_ret
    exact ⟨rfl, Q.refl w⟩
  have n1B : decide ((l.length : Int) < 1) = false := decide_eq_false (by omega)
  by_cases n2 : 4 < l.length
  · rw [rightS_long l n2]
    have n2B : decide ((4 : Int) < (l.length : Int)) = true := decide_eq_true (by omega)
    clear h4
    go_enter Try.func49, Try.ntmps49
    go_wp2
    go_ret
    exact ⟨rfl, Q.refl w⟩
  have n2B : decide ((4 : Int) < (l.length : Int)) = false := decide_eq_false (by omega)
  go_enter Try.func49, Try.ntmps49
  go_wp2
  go_loopw [3, 16] (fun lf i wr => ∃ (k : Nat), k ≤ l.length ∧ i = .int .i64 k ∧ lf = .int .i64 (60000 - hsumI l k) ∧ 0 ≤ hsumI l k ∧ hsumI l k ≤ 60000 ∧ okTo l k = true ∧ Q w wr) (fun _ i _ => l.length - (intOf i).toNat)
  case atStart => exact ⟨0, Nat.zero_le _, rfl, rfl, by simp [hsumI], by simp [hsumI], rfl, Q.refl w⟩
  case round =>
    obtain ⟨k, hk, rfl, rfl, t1, t2, hok, hq⟩ := hrel
    by_cases hl : k < l.length
    · have hlB : decide (k < l.length) = true := decide_eq_true hl
      have hg := List.getElem?_eq_getElem hl
      have hs := (h4 k _ hg).2.keep hq
      have hsu := hsumI_succ l k _ hg
      have hoku := okTo_succ l k _ hg hok
      have hbad := rightS_bad l k _ hg
      have hover := rightS_over l k _ hg
      clear h4 hok
      generalize l[k] = s at *
      generalize hsumI l k = t at *
      obtain ⟨r, h, a0, b0, a1, b1⟩ := s
      obtain ⟨f0, f1, f2, f3, f4, f5⟩ := hs
      obtain ⟨m, hm1⟩ : ∃ m, h.tmod 100 = m := ⟨_, rfl⟩
      have hsec := secOk_sound ⟨r, h, a0, b0, a1, b1⟩ m hm1
      have cS := fun w => sound_any r h a0 b0 a1 b1 w
      obtain ⟨lf, hlf⟩ : ∃ lf, 60000 - t = lf := ⟨_, rfl⟩
      rw [hlf]
      simp only at f0 f1 f2 f3 f4 f5 hsu hsec hover
      have HS := Lib.hid hsu
      have HM := Lib.hid hg
      clear hsu hg
      by_cases k1' : h < 1
      · have k1 : decide (h < 1) = true := decide_eq_true k1'
        have HB := Lib.hid (hbad (by rw [hsec]; simp [k1]))
        clear hbad hsec hoku hover cS
        go_wp2
        go_ret
        exact ⟨by rw [HB.out]; rfl, hq.alloc _ _⟩
      have k1 : decide (h < 1) = false := decide_eq_false k1'
      by_cases k2' : lf < h
      · have k2 : decide (lf < h) = true := decide_eq_true k2'
        have HB := Lib.hid (hover (by omega))
        clear hbad hsec hoku hover cS
        go_wp2
        go_ret
        exact ⟨by rw [HB.out]; rfl, hq.alloc _ _⟩
      have k2 : decide (lf < h) = false := decide_eq_false k2'
      have k2b : decide (60000 < h) = false := decide_eq_false (by omega)
      have k3 : (m != 0) = true ∨ (m != 0) = false := by cases (m != 0) <;> simp
      rcases k3 with k3 | k3
      · have HB := Lib.hid (hbad (by rw [hsec]; simp [k1, k2b, k3]))
        clear hbad hsec hoku hover cS k2b
        go_wp2
        go_ret
        exact ⟨by rw [HB.out]; rfl, hq.alloc _ _⟩
      generalize soundS ⟨r, h, a0, b0, a1, b1⟩ = s0 at *
      cases s0
      · have HB := Lib.hid (hbad (by rw [hsec]; simp))
        clear hbad hsec hoku hover k2b
        go_wp2_with fail
        refine (cS _).mono ?_
        rintro e w1 ⟨rfl, g⟩
        replace g := (hq.alloc _ _).trans g
        go_wp2
        go_ret
        exact ⟨by rw [HB.out]; rfl, g⟩
      · have HO := Lib.hid (hoku (by rw [hsec]; simp [k1, k2b, k3]))
        have e1 : IntKind.i64.wrap (lf - h) = lf - h := wrapI (by omega) (by omega)
        clear hbad hsec hoku hover k2b
        go_wp2_with fail
        refine (cS _).mono ?_
        rintro e w1 ⟨rfl, g⟩
        have z1 := g.keep (p := ⟨wr.heap.size, 1, none⟩) (v := .int .i64 h) (by simp [go_sem])
        replace g := (hq.alloc _ _).trans g
        go_wp2
        go_roundw
        case rel => exact ⟨k + 1, by omega, by go_num, by rw [HS.out]; congr 1; omega, by rw [HS.out]; omega, by rw [HS.out]; omega, HO.out, g⟩
        case measure => simp [intOf]; omega
    · have hlB : decide (k < l.length) = false := decide_eq_false hl
      obtain rfl : k = l.length := by omega
      have HE := Lib.hid ((rightS_end l (by omega) (by omega) hok).trans (decide_eq_true t2))
      clear h4 hok
      go_wp2
      go_ret
      exact ⟨by rw [HE.out]; rfl, hq⟩
theorem right_code : RightC := by
  intro v l w hv
  rcases hv with ⟨rfl, rfl⟩ | ⟨a, cap, rfl, h2, h3, h4⟩
  · rw [rightS_short [] (by simp)]
    go_enter Try.func49, Try.ntmps49
    go_wp2
    go_ret
    exact ⟨rfl, B.refl w⟩
  · exact (right_row a cap l h2 h3 w h4).mono fun _ _ h => ⟨h.1, h.2.b⟩
end Go.Proofs.Ytkhaephmpifcmaa

namespace Go.Proofs.Ytkhaephmpifcmaa
open Go.RowKit
theorem tin_any (v a b : Int) (w : World) :
    Calls Try.prog 70 #[.int .i64 v, .int .i64 a, .int .i64 b] w fun e w' => e = .returned (.bool (inB v a b)) ∧ w = w' := by
  unfold inB
  have hb : decide (a ≤ v) = true ∨ decide (a ≤ v) = false := by cases decide (a ≤ v) <;> simp
  rcases hb with hb | hb
  all_goals
    go_enter Try.func70, Try.ntmps70
    go_wp2
    go_ret
    exact ⟨by simp [hb], rfl⟩
theorem tipright_any (s : ByteArray) (cap filt err : Int) (v : Value) (l : List Sec) (w : World) (hv : IsSecs w v l) :
    Calls Try.prog 50 #[.agg #[.string s, .int .i64 cap, .int .i64 filt, .int .i64 err, v]] w fun e w' => e = .returned (.bool (tipB s cap filt err l)) ∧ B w w' := by
  obtain ⟨ao, nn, cc, rfl⟩ := hv.form
  have HV := Lib.hid hv
  clear hv
  have cl := fun w h => right_code (.slice ao nn cc) l w h
  have cc_ := fun w => tin_any cap 1 20000000 w
  have cf := fun w => tin_any filt 1 60000 w
  have ce := fun w => tin_any err 0 10000 w
  have cn := fun w => named_any s w
  unfold tipB
  have kc : ∀ w', B (w.alloc (.cells #[.string s, .int .i64 cap, .int .i64 filt, .int .i64 err, .slice ao nn cc] 116)) w' → B w w' := fun w' q => ((B.refl w).alloc _ _).trans q
  generalize rightS l = bl at *
  generalize inB cap 1 20000000 = bc at *
  generalize inB filt 1 60000 = bf at *
  generalize inB err 0 10000 = be at *
  generalize nameS s = bn at *
  cases bl
  · go_enter Try.func50, Try.ntmps50
    go_wp2_with fail
    have k0 : (w.alloc (.cells #[.string s, .int .i64 cap, .int .i64 filt, .int .i64 err, .slice ao nn cc] 116)).cell? ⟨w.heap.size, 0, none⟩ = some (.string s) := by simp [go_sem]
    have k1 : (w.alloc (.cells #[.string s, .int .i64 cap, .int .i64 filt, .int .i64 err, .slice ao nn cc] 116)).cell? ⟨w.heap.size, 1, none⟩ = some (.int .i64 cap) := by simp [go_sem]
    have k2 : (w.alloc (.cells #[.string s, .int .i64 cap, .int .i64 filt, .int .i64 err, .slice ao nn cc] 116)).cell? ⟨w.heap.size, 2, none⟩ = some (.int .i64 filt) := by simp [go_sem]
    have k3 : (w.alloc (.cells #[.string s, .int .i64 cap, .int .i64 filt, .int .i64 err, .slice ao nn cc] 116)).cell? ⟨w.heap.size, 3, none⟩ = some (.int .i64 err) := by simp [go_sem]
    have k4 : (w.alloc (.cells #[.string s, .int .i64 cap, .int .i64 filt, .int .i64 err, .slice ao nn cc] 116)).cell? ⟨w.heap.size, 4, none⟩ = some (.slice ao nn cc) := by simp [go_sem]
    have hv := HV.out.keepB ((B.refl w).alloc #[.string s, .int .i64 cap, .int .i64 filt, .int .i64 err, .slice ao nn cc] 116)
    have g := (B.refl w).alloc #[.string s, .int .i64 cap, .int .i64 filt, .int .i64 err, .slice ao nn cc] 116
    generalize w.alloc (.cells #[.string s, .int .i64 cap, .int .i64 filt, .int .i64 err, .slice ao nn cc] 116) = W at *
    refine (cl _ hv).mono ?_
    rintro e w2 ⟨rfl, q⟩
    replace k0 := q.keep k0
    replace k1 := q.keep k1
    replace k2 := q.keep k2
    replace k3 := q.keep k3
    replace k4 := q.keep k4
    replace hv := hv.keepB q
    replace g := g.trans q
    clear q
    go_wp2
    go_ret
    exact ⟨by simp, g⟩
  cases bc
  · go_enter Try.func50, Try.ntmps50
    go_wp2_with fail
    have k0 : (w.alloc (.cells #[.string s, .int .i64 cap, .int .i64 filt, .int .i64 err, .slice ao nn cc] 116)).cell? ⟨w.heap.size, 0, none⟩ = some (.string s) := by simp [go_sem]
    have k1 : (w.alloc (.cells #[.string s, .int .i64 cap, .int .i64 filt, .int .i64 err, .slice ao nn cc] 116)).cell? ⟨w.heap.size, 1, none⟩ = some (.int .i64 cap) := by simp [go_sem]
    have k2 : (w.alloc (.cells #[.string s, .int .i64 cap, .int .i64 filt, .int .i64 err, .slice ao nn cc] 116)).cell? ⟨w.heap.size, 2, none⟩ = some (.int .i64 filt) := by simp [go_sem]
    have k3 : (w.alloc (.cells #[.string s, .int .i64 cap, .int .i64 filt, .int .i64 err, .slice ao nn cc] 116)).cell? ⟨w.heap.size, 3, none⟩ = some (.int .i64 err) := by simp [go_sem]
    have k4 : (w.alloc (.cells #[.string s, .int .i64 cap, .int .i64 filt, .int .i64 err, .slice ao nn cc] 116)).cell? ⟨w.heap.size, 4, none⟩ = some (.slice ao nn cc) := by simp [go_sem]
    have hv := HV.out.keepB ((B.refl w).alloc #[.string s, .int .i64 cap, .int .i64 filt, .int .i64 err, .slice ao nn cc] 116)
    have g := (B.refl w).alloc #[.string s, .int .i64 cap, .int .i64 filt, .int .i64 err, .slice ao nn cc] 116
    generalize w.alloc (.cells #[.string s, .int .i64 cap, .int .i64 filt, .int .i64 err, .slice ao nn cc] 116) = W at *
    refine (cl _ hv).mono ?_
    rintro e w2 ⟨rfl, q⟩
    replace k0 := q.keep k0
    replace k1 := q.keep k1
    replace k2 := q.keep k2
    replace k3 := q.keep k3
    replace k4 := q.keep k4
    replace hv := hv.keepB q
    replace g := g.trans q
    clear q
    go_wp2_with fail
    refine (cc_ _).mono ?_
    rintro e w1 ⟨rfl, rfl⟩
    go_wp2
    go_ret
    exact ⟨by simp, g⟩
  cases bf
  · go_enter Try.func50, Try.ntmps50
    go_wp2_with fail
    have k0 : (w.alloc (.cells #[.string s, .int .i64 cap, .int .i64 filt, .int .i64 err, .slice ao nn cc] 116)).cell? ⟨w.heap.size, 0, none⟩ = some (.string s) := by simp [go_sem]
    have k1 : (w.alloc (.cells #[.string s, .int .i64 cap, .int .i64 filt, .int .i64 err, .slice ao nn cc] 116)).cell? ⟨w.heap.size, 1, none⟩ = some (.int .i64 cap) := by simp [go_sem]
    have k2 : (w.alloc (.cells #[.string s, .int .i64 cap, .int .i64 filt, .int .i64 err, .slice ao nn cc] 116)).cell? ⟨w.heap.size, 2, none⟩ = some (.int .i64 filt) := by simp [go_sem]
    have k3 : (w.alloc (.cells #[.string s, .int .i64 cap, .int .i64 filt, .int .i64 err, .slice ao nn cc] 116)).cell? ⟨w.heap.size, 3, none⟩ = some (.int .i64 err) := by simp [go_sem]
    have k4 : (w.alloc (.cells #[.string s, .int .i64 cap, .int .i64 filt, .int .i64 err, .slice ao nn cc] 116)).cell? ⟨w.heap.size, 4, none⟩ = some (.slice ao nn cc) := by simp [go_sem]
    have hv := HV.out.keepB ((B.refl w).alloc #[.string s, .int .i64 cap, .int .i64 filt, .int .i64 err, .slice ao nn cc] 116)
    have g := (B.refl w).alloc #[.string s, .int .i64 cap, .int .i64 filt, .int .i64 err, .slice ao nn cc] 116
    generalize w.alloc (.cells #[.string s, .int .i64 cap, .int .i64 filt, .int .i64 err, .slice ao nn cc] 116) = W at *
    refine (cl _ hv).mono ?_
    rintro e w2 ⟨rfl, q⟩
    replace k0 := q.keep k0
    replace k1 := q.keep k1
    replace k2 := q.keep k2
    replace k3 := q.keep k3
    replace k4 := q.keep k4
    replace hv := hv.keepB q
    replace g := g.trans q
    clear q
    go_wp2_with fail
    refine (cc_ _).mono ?_
    rintro e w1 ⟨rfl, rfl⟩
    go_wp2_with fail
    refine (cf _).mono ?_
    rintro e w1 ⟨rfl, rfl⟩
    go_wp2
    go_ret
    exact ⟨by simp, g⟩
  cases be
  · go_enter Try.func50, Try.ntmps50
    go_wp2_with fail
    have k0 : (w.alloc (.cells #[.string s, .int .i64 cap, .int .i64 filt, .int .i64 err, .slice ao nn cc] 116)).cell? ⟨w.heap.size, 0, none⟩ = some (.string s) := by simp [go_sem]
    have k1 : (w.alloc (.cells #[.string s, .int .i64 cap, .int .i64 filt, .int .i64 err, .slice ao nn cc] 116)).cell? ⟨w.heap.size, 1, none⟩ = some (.int .i64 cap) := by simp [go_sem]
    have k2 : (w.alloc (.cells #[.string s, .int .i64 cap, .int .i64 filt, .int .i64 err, .slice ao nn cc] 116)).cell? ⟨w.heap.size, 2, none⟩ = some (.int .i64 filt) := by simp [go_sem]
    have k3 : (w.alloc (.cells #[.string s, .int .i64 cap, .int .i64 filt, .int .i64 err, .slice ao nn cc] 116)).cell? ⟨w.heap.size, 3, none⟩ = some (.int .i64 err) := by simp [go_sem]
    have k4 : (w.alloc (.cells #[.string s, .int .i64 cap, .int .i64 filt, .int .i64 err, .slice ao nn cc] 116)).cell? ⟨w.heap.size, 4, none⟩ = some (.slice ao nn cc) := by simp [go_sem]
    have hv := HV.out.keepB ((B.refl w).alloc #[.string s, .int .i64 cap, .int .i64 filt, .int .i64 err, .slice ao nn cc] 116)
    have g := (B.refl w).alloc #[.string s, .int .i64 cap, .int .i64 filt, .int .i64 err, .slice ao nn cc] 116
    generalize w.alloc (.cells #[.string s, .int .i64 cap, .int .i64 filt, .int .i64 err, .slice ao nn cc] 116) = W at *
    refine (cl _ hv).mono ?_
    rintro e w2 ⟨rfl, q⟩
    replace k0 := q.keep k0
    replace k1 := q.keep k1
    replace k2 := q.keep k2
    replace k3 := q.keep k3
    replace k4 := q.keep k4
    replace hv := hv.keepB q
    replace g := g.trans q
    clear q
    go_wp2_with fail
    refine (cc_ _).mono ?_
    rintro e w1 ⟨rfl, rfl⟩
    go_wp2_with fail
    refine (cf _).mono ?_
    rintro e w1 ⟨rfl, rfl⟩
    go_wp2_with fail
    refine (ce _).mono ?_
    rintro e w1 ⟨rfl, rfl⟩
    go_wp2
    go_ret
    exact ⟨by simp, g⟩
  cases bn
  · go_enter Try.func50, Try.ntmps50
    go_wp2_with fail
    have k0 : (w.alloc (.cells #[.string s, .int .i64 cap, .int .i64 filt, .int .i64 err, .slice ao nn cc] 116)).cell? ⟨w.heap.size, 0, none⟩ = some (.string s) := by simp [go_sem]
    have k1 : (w.alloc (.cells #[.string s, .int .i64 cap, .int .i64 filt, .int .i64 err, .slice ao nn cc] 116)).cell? ⟨w.heap.size, 1, none⟩ = some (.int .i64 cap) := by simp [go_sem]
    have k2 : (w.alloc (.cells #[.string s, .int .i64 cap, .int .i64 filt, .int .i64 err, .slice ao nn cc] 116)).cell? ⟨w.heap.size, 2, none⟩ = some (.int .i64 filt) := by simp [go_sem]
    have k3 : (w.alloc (.cells #[.string s, .int .i64 cap, .int .i64 filt, .int .i64 err, .slice ao nn cc] 116)).cell? ⟨w.heap.size, 3, none⟩ = some (.int .i64 err) := by simp [go_sem]
    have k4 : (w.alloc (.cells #[.string s, .int .i64 cap, .int .i64 filt, .int .i64 err, .slice ao nn cc] 116)).cell? ⟨w.heap.size, 4, none⟩ = some (.slice ao nn cc) := by simp [go_sem]
    have hv := HV.out.keepB ((B.refl w).alloc #[.string s, .int .i64 cap, .int .i64 filt, .int .i64 err, .slice ao nn cc] 116)
    have g := (B.refl w).alloc #[.string s, .int .i64 cap, .int .i64 filt, .int .i64 err, .slice ao nn cc] 116
    generalize w.alloc (.cells #[.string s, .int .i64 cap, .int .i64 filt, .int .i64 err, .slice ao nn cc] 116) = W at *
    refine (cl _ hv).mono ?_
    rintro e w2 ⟨rfl, q⟩
    replace k0 := q.keep k0
    replace k1 := q.keep k1
    replace k2 := q.keep k2
    replace k3 := q.keep k3
    replace k4 := q.keep k4
    replace hv := hv.keepB q
    replace g := g.trans q
    clear q
    go_wp2_with fail
    refine (cc_ _).mono ?_
    rintro e w1 ⟨rfl, rfl⟩
    go_wp2_with fail
    refine (cf _).mono ?_
    rintro e w1 ⟨rfl, rfl⟩
    go_wp2_with fail
    refine (ce _).mono ?_
    rintro e w1 ⟨rfl, rfl⟩
    go_wp2_with fail
    refine (cn _).mono ?_
    rintro e w6 ⟨rfl, q⟩
    replace k0 := q.keep k0
    replace k1 := q.keep k1
    replace k2 := q.keep k2
    replace k3 := q.keep k3
    replace k4 := q.keep k4
    replace hv := hv.keepB q
    replace g := g.trans q
    clear q
    go_wp2
    go_ret
    exact ⟨by simp, g⟩
  · go_enter Try.func50, Try.ntmps50
    go_wp2_with fail
    have k0 : (w.alloc (.cells #[.string s, .int .i64 cap, .int .i64 filt, .int .i64 err, .slice ao nn cc] 116)).cell? ⟨w.heap.size, 0, none⟩ = some (.string s) := by simp [go_sem]
    have k1 : (w.alloc (.cells #[.string s, .int .i64 cap, .int .i64 filt, .int .i64 err, .slice ao nn cc] 116)).cell? ⟨w.heap.size, 1, none⟩ = some (.int .i64 cap) := by simp [go_sem]
    have k2 : (w.alloc (.cells #[.string s, .int .i64 cap, .int .i64 filt, .int .i64 err, .slice ao nn cc] 116)).cell? ⟨w.heap.size, 2, none⟩ = some (.int .i64 filt) := by simp [go_sem]
    have k3 : (w.alloc (.cells #[.string s, .int .i64 cap, .int .i64 filt, .int .i64 err, .slice ao nn cc] 116)).cell? ⟨w.heap.size, 3, none⟩ = some (.int .i64 err) := by simp [go_sem]
    have k4 : (w.alloc (.cells #[.string s, .int .i64 cap, .int .i64 filt, .int .i64 err, .slice ao nn cc] 116)).cell? ⟨w.heap.size, 4, none⟩ = some (.slice ao nn cc) := by simp [go_sem]
    have hv := HV.out.keepB ((B.refl w).alloc #[.string s, .int .i64 cap, .int .i64 filt, .int .i64 err, .slice ao nn cc] 116)
    have g := (B.refl w).alloc #[.string s, .int .i64 cap, .int .i64 filt, .int .i64 err, .slice ao nn cc] 116
    generalize w.alloc (.cells #[.string s, .int .i64 cap, .int .i64 filt, .int .i64 err, .slice ao nn cc] 116) = W at *
    refine (cl _ hv).mono ?_
    rintro e w2 ⟨rfl, q⟩
    replace k0 := q.keep k0
    replace k1 := q.keep k1
    replace k2 := q.keep k2
    replace k3 := q.keep k3
    replace k4 := q.keep k4
    replace hv := hv.keepB q
    replace g := g.trans q
    clear q
    go_wp2_with fail
    refine (cc_ _).mono ?_
    rintro e w1 ⟨rfl, rfl⟩
    go_wp2_with fail
    refine (cf _).mono ?_
    rintro e w1 ⟨rfl, rfl⟩
    go_wp2_with fail
    refine (ce _).mono ?_
    rintro e w1 ⟨rfl, rfl⟩
    go_wp2_with fail
    refine (cn _).mono ?_
    rintro e w6 ⟨rfl, q⟩
    replace k0 := q.keep k0
    replace k1 := q.keep k1
    replace k2 := q.keep k2
    replace k3 := q.keep k3
    replace k4 := q.keep k4
    replace hv := hv.keepB q
    replace g := g.trans q
    clear q
    go_wp2
    go_ret
    exact ⟨by simp, g⟩
end Go.Proofs.Ytkhaephmpifcmaa

namespace Go.Proofs.Ytkhaephmpifcmaa
open Go.RowKit
set_option linter.unusedVariables false
theorem tipB_ok (n : ByteArray) (x y z : Int) (l : List Sec) : tipB n x y z l = tipOk ⟨n, x, y, z, l⟩ := by
  unfold tipB tipOk
  simp only
  cases nameS n <;> cases rightS l <;> simp
end Go.Proofs.Ytkhaephmpifcmaa

namespace Go.Proofs.Ytkhaephmpifcmaa
open Go.RowKit
theorem wpSeq_pass {P : Program} {ops : Array Oper} {Q : Exit → Act → World → Prop} {S : World → Prop} {l : List (Nat × Nat)} {t : List Value} {df : List _} {w : World} {i d : Nat} {o : Oper}
    (ho : ops.toList[i]? = some o) (hd : o.dst = some d) (hw : Region.wanted o (yielded ops t.toArray) = false)
    (h : wpSeq P ops Q S l { tmps := (t.set d undef).toArray, defers := df } w) : wpSeq P ops Q S ((i, 1) :: l) { tmps := t.toArray, defers := df } w := by
  refine ⟨o, by rw [← Array.getElem?_toList]; exact ho, ?_⟩
  rw [if_neg (by decide), if_pos rfl]
  refine ⟨hw, ?_⟩
  have e : Act.put { tmps := t.toArray, defers := df } o.dst undef = { tmps := (t.set d undef).toArray, defers := df } := by
    rw [hd]; simp [Act.put]
  rw [e]
  exact h
end Go.Proofs.Ytkhaephmpifcmaa

namespace Go.Proofs.Ytkhaephmpifcmaa
open Go.RowKit
set_option linter.unusedVariables false
def wareB (w : Wr) : Prop := 1 ≤ w.x ∧ w.x ≤ 8 ∧ 1 ≤ w.y ∧ w.y ≤ 12
theorem mul_small {a b : Int} (h1 : 0 ≤ a) (h2 : a ≤ 8) (h3 : 0 ≤ b) (h4 : b ≤ 12) : 0 ≤ a * b ∧ a * b ≤ 96 := by
  refine ⟨Int.mul_nonneg h1 h3, ?_⟩
  have := Int.mul_le_mul h2 h4 h3 (by omega : (0 : Int) ≤ 8)
  omega
theorem index_cons {ws : List Wr} {i : Nat} (hi : i < ws.length) (K : Int) (n : ByteArray) (r c : Int) : indexW (ws.drop i) K n r c = (if (ws[i]).n.toList == n.toList then (if 0 ≤ r ∧ r < (ws[i]).x ∧ 0 ≤ c ∧ c < (ws[i]).y then some (K + (r * (ws[i]).y + c)) else none) else indexW (ws.drop (i + 1)) (K + (ws[i]).x * (ws[i]).y) n r c) := by
  rw [List.drop_eq_getElem_cons hi]
  rfl
end Go.Proofs.Ytkhaephmpifcmaa

namespace Go.Proofs.Ytkhaephmpifcmaa
open Go.RowKit
set_option maxHeartbeats 2000000 in
theorem r8index_any (wv tv fv : Value) (d : Dk) (n : ByteArray) (r c : Int) (w : World) (h : IsDk w wv tv fv d) (hb : ∀ x ∈ d.ws, wareB x) (h100 : d.ws.length ≤ 100) : Calls Try.prog 32 #[.agg #[wv, tv, fv], .agg #[.string n, .int .i64 r, .int .i64 c]] w fun e w' => e = .returned (.tuple #[.int .i64 ((indexW d.ws 0 n r c).getD 0), .bool (hasW d.ws n r c)]) ∧ Q w w' := by
  obtain ⟨ao, ac, bo, bc, co, cc, rfl, rfl, rfl⟩ := h.forms
  have hQ := ((Q.refl w).alloc #[.slice ao d.ws.length ac, .slice bo d.ts.length bc, .slice co d.fs.length cc] 67).alloc #[.string n, .int .i64 r, .int .i64 c] 61
  have hR := h.ws.keepB hQ.b
  obtain ⟨W, hW⟩ : ∃ W, (w.alloc (.cells #[.slice ao d.ws.length ac, .slice bo d.ts.length bc, .slice co d.fs.length cc] 67)).alloc (.cells #[.string n, .int .i64 r, .int .i64 c] 61) = W := ⟨_, rfl⟩
  have k0 : W.cell? ⟨w.heap.size, 0, none⟩ = some (.slice ao d.ws.length ac) := by rw [← hW]; exact ((Q.refl _).alloc _ _).keep (by rw [World.cell?_alloc_new]; rfl)
  have e1 : (w.alloc (.cells #[.slice ao d.ws.length ac, .slice bo d.ts.length bc, .slice co d.fs.length cc] 67)).heap.size = w.heap.size + 1 := by simp
  have k1 : W.cell? ⟨w.heap.size + 1, 0, none⟩ = some (.string n) := by rw [← hW, ← e1, World.cell?_alloc_new]; rfl
  have k2 : W.cell? ⟨w.heap.size + 1, 1, none⟩ = some (.int .i64 r) := by rw [← hW, ← e1, World.cell?_alloc_new]; rfl
  have k3 : W.cell? ⟨w.heap.size + 1, 2, none⟩ = some (.int .i64 c) := by rw [← hW, ← e1, World.cell?_alloc_new]; rfl
  rw [hW] at hR hQ
  replace hQ := Lib.hid hQ
  clear h e1
  unfold hasW
  obtain ⟨R, hRR⟩ : ∃ R, indexW d.ws 0 n r c = R := ⟨_, rfl⟩
  rw [hRR]
  go_enter Try.func32, Try.ntmps32
  go_wp2
  try rw [hW]
  clear hW
  generalize w.heap.size = H at *
  go_loopw [6, 7] (fun nv iv wr => ∃ (i : Nat) (K : Int), i ≤ d.ws.length ∧ iv = .int .i64 i ∧ nv = .int .i64 K ∧ 0 ≤ K ∧ K ≤ 96 * (i : Int) ∧ R = indexW (d.ws.drop i) K n r c ∧ Q W wr) (fun _ iv _ => d.ws.length + 1 - (intOf iv).toNat)
  case atStart => exact ⟨0, 0, Nat.zero_le _, rfl, rfl, by omega, by omega, hRR.symm, Q.refl _⟩
  case round =>
    obtain ⟨i, K, hi, rfl, rfl, hK0, hK1, hRi, hQi⟩ := hrel
    obtain ⟨wo, rfl⟩ : ∃ wo : World, wo = wr := ⟨_, rfl⟩
    clear hRR
    replace k0 := hQi.keep k0
    replace k1 := hQi.keep k1
    replace k2 := hQi.keep k2
    replace k3 := hQi.keep k3
    by_cases hl : i < d.ws.length
    · have hlB : decide ((i : Int) < (d.ws.length : Int)) = true := decide_eq_true (by omega)
      have hlI : (i : Int) < (d.ws.length : Int) := by omega
      have hi0 : (0 : Int) ≤ (i : Int) := by omega
      have wk1 : IntKind.i64.wrap ((i : Int) + 1) = (i : Int) + 1 := by rw [IntKind.wrap_i64]; omega
      obtain ⟨a, cap, e1, _, _, hr⟩ := (hR.keepB hQi.b).at_ hl
      obtain ⟨rfl, _, rfl⟩ : ao = some a ∧ True ∧ ac = cap := by simpa using e1
      have hbi := hb _ (List.getElem_mem hl)
      rw [index_cons hl] at hRi
      obtain ⟨F, hF⟩ : ∃ F, d.ws[i] = F := ⟨_, rfl⟩
      rw [hF] at hr hRi hbi
      obtain ⟨b1, b2, b3, b4⟩ := hbi
      obtain ⟨g1, g2, g3, g4, sv, g5, g6⟩ := hr
      obtain ⟨so, sc, rfl⟩ := secs_form g6
      obtain ⟨sn, hsn⟩ : ∃ sn, F.l.length = sn := ⟨_, rfl⟩
      rw [hsn] at g5 g6
      clear hsn
      obtain ⟨N, X, Y, Z, SL⟩ := F
      simp only at g1 g2 g3 g4 g5 hRi b1 b2 b3 b4
      have q1 := (Q.refl wo).alloc #[.string N, .int .i64 X, .int .i64 Y, .int .i64 Z, .slice so sn sc] 58
      have m0 := q1.keep k0
      have m1 := q1.keep k1
      have m2 := q1.keep k2
      have m3 := q1.keep k3
      have hs := World.block_lt_of_cell? _ _ k1
      have HQ := Lib.hid (hQi.trans q1)
      have HL := Lib.hid hl
      obtain ⟨W1, hW1⟩ : ∃ W1, wo.alloc (.cells #[.string N, .int .i64 X, .int .i64 Y, .int .i64 Z, .slice so sn sc] 58) = W1 := ⟨_, rfl⟩
      have p0 : W1.cell? ⟨wo.heap.size, 0, none⟩ = some (.string N) := by rw [← hW1, World.cell?_alloc_new]; rfl
      have p1 : W1.cell? ⟨wo.heap.size, 1, none⟩ = some (.int .i64 X) := by rw [← hW1, World.cell?_alloc_new]; rfl
      have p2 : W1.cell? ⟨wo.heap.size, 2, none⟩ = some (.int .i64 Y) := by rw [← hW1, World.cell?_alloc_new]; rfl
      rw [hW1] at m0 m1 m2 m3 HQ
      clear hR hF e1 g6 q1 hs hQi hb hi
      cases hc : (N.toList == n.toList)
      · rw [hc, if_neg (by decide)] at hRi
        have hxy := mul_small (a := X) (b := Y) (by omega) b2 (by omega) b4
        obtain ⟨P, hP⟩ : ∃ P, X * Y = P := ⟨_, rfl⟩
        rw [hP] at hxy hRi
        obtain ⟨K', hK'⟩ : ∃ K', K + P = K' := ⟨_, rfl⟩
        rw [hK'] at hRi
        have w1 : IntKind.i64.wrap (X * Y) = P := by rw [hP, IntKind.wrap_i64]; omega
        have w2 : IntKind.i64.wrap (K + P) = K' := by rw [hK', IntKind.wrap_i64]; omega
        have HS := Lib.hid (And.intro hRi (show 0 ≤ K' ∧ K' ≤ 96 * ((i : Int) + 1) by omega))
        clear hRi hxy hP hK' hK0 hK1 hl b1 b2 b3 b4
        go_wp2
        try rw [hW1]
        go_roundw
        case rel => exact ⟨i + 1, K', by have := HL.out; omega, by go_num, rfl, HS.out.2.1, by have := HS.out.2.2; omega, HS.out.1, HQ.out⟩
        case measure => have := HL.out; simp [intOf]; omega
      · rw [hc, if_pos rfl] at hRi
        by_cases r0 : 0 ≤ r
        · have r0B : decide (r < 0) = false := decide_eq_false (by omega)
          by_cases r1 : r < X
          · have r1B : decide (X ≤ r) = false := decide_eq_false (by omega)
            by_cases c0 : 0 ≤ c
            · have c0B : decide (c < 0) = false := decide_eq_false (by omega)
              by_cases c1 : c < Y
              · have c1B : decide (Y ≤ c) = false := decide_eq_false (by omega)
                rw [if_pos ⟨r0, r1, c0, c1⟩] at hRi
                have hxy := mul_small (a := r) (b := Y) r0 (by omega) (by omega) b4
                obtain ⟨P, hP⟩ : ∃ P, r * Y = P := ⟨_, rfl⟩
                rw [hP] at hxy hRi
                have w1 : IntKind.i64.wrap (r * Y) = P := by rw [hP, IntKind.wrap_i64]; omega
                obtain ⟨K1, hK1'⟩ : ∃ K1, K + P = K1 := ⟨_, rfl⟩
                obtain ⟨K2, hK2⟩ : ∃ K2, K1 + c = K2 := ⟨_, rfl⟩
                have w2 : IntKind.i64.wrap (K + P) = K1 := by rw [hK1', IntKind.wrap_i64]; omega
                have w3 : IntKind.i64.wrap (K1 + c) = K2 := by rw [hK2, IntKind.wrap_i64]; omega
                have e2 : K + (P + c) = K2 := by omega
                rw [e2] at hRi
                subst hRi
                clear hP hxy hK1' hK2 e2 hK0 hK1 b1 b2 b3 b4 r0 r1 c0 c1 hl
                go_wp2
                try rw [hW1]
                go_ret2
                exact ⟨rfl, hQ.out.trans HQ.out⟩
              · have c1B : decide (Y ≤ c) = true := decide_eq_true (by omega)
                rw [if_neg (by omega)] at hRi
                subst hRi
                clear hK0 hK1 b1 b2 b3 b4 r0 r1 c0 c1 hl
                go_wp2
                try rw [hW1]
                go_ret2
                exact ⟨rfl, hQ.out.trans HQ.out⟩
            · have c0B : decide (c < 0) = true := decide_eq_true (by omega)
              rw [if_neg (by omega)] at hRi
              subst hRi
              clear hK0 hK1 b1 b2 b3 b4 r0 r1 c0 hl
              go_wp2
              try rw [hW1]
              go_ret2
              exact ⟨rfl, hQ.out.trans HQ.out⟩
          · have r1B : decide (X ≤ r) = true := decide_eq_true (by omega)
            rw [if_neg (by omega)] at hRi
            subst hRi
            clear hK0 hK1 b1 b2 b3 b4 r0 r1 hl
            go_wp2
            try rw [hW1]
            go_ret2
            exact ⟨rfl, hQ.out.trans HQ.out⟩
        · have r0B : decide (r < 0) = true := decide_eq_true (by omega)
          rw [if_neg (by omega)] at hRi
          subst hRi
          clear hK0 hK1 b1 b2 b3 b4 r0 hl
          go_wp2
          try rw [hW1]
          go_ret2
          exact ⟨rfl, hQ.out.trans HQ.out⟩
    · have hlB : decide ((i : Int) < (d.ws.length : Int)) = false := decide_eq_false (by omega)
      rw [List.drop_eq_nil_of_le (by omega)] at hRi
      have hRn : R = none := hRi
      subst hRn
      have HQ := Lib.hid (hQ.out.trans hQi)
      clear hRi hR hQi hi hK0 hK1
      go_wp2
      go_ret2
      exact ⟨rfl, HQ.out⟩
end Go.Proofs.Ytkhaephmpifcmaa

namespace Go.Proofs.Ytkhaephmpifcmaa
open Go.RowKit
theorem r8wnamed_any (wv tv fv : Value) (d : Dk) (s : ByteArray) (w : World) (h : IsDk w wv tv fv d) : Calls Try.prog 58 #[.agg #[wv, tv, fv], .string s] w fun e w' => e = .returned (.bool (namedW d.ws s)) ∧ Q w w' := by
  obtain ⟨ao, ac, bo, bc, co, cc, rfl, rfl, rfl⟩ := h.forms
  have hQ := (Q.refl w).alloc #[.slice ao d.ws.length ac, .slice bo d.ts.length bc, .slice co d.fs.length cc] 67
  have hR := h.ws.keepB hQ.b
  have hlen := h.ws.len
  have k0 : (w.alloc (.cells #[.slice ao d.ws.length ac, .slice bo d.ts.length bc, .slice co d.fs.length cc] 67)).cell? ⟨w.heap.size, 0, none⟩ = some (.slice ao d.ws.length ac) := by rw [World.cell?_alloc_new]; rfl
  replace hQ := Lib.hid hQ
  clear h
  go_enter Try.func58, Try.ntmps58
  go_wp2
  generalize w.alloc (.cells #[.slice ao d.ws.length ac, .slice bo d.ts.length bc, .slice co d.fs.length cc] 67) = W at *
  generalize w.heap.size = H at *
  go_loopw [5] (fun iv wr => ∃ i : Nat, i ≤ d.ws.length ∧ iv = .int .i64 i ∧ (∀ j (hj : j < d.ws.length), j < i → ((d.ws[j]).n.toList == s.toList) = false) ∧ W = wr) (fun iv _ => d.ws.length + 1 - (intOf iv).toNat)
  case atStart => exact ⟨0, Nat.zero_le _, rfl, fun j _ hj => by omega, rfl⟩
  case round =>
    obtain ⟨i, hi, rfl, hall, rfl⟩ := hrel
    by_cases hl : i < d.ws.length
    · have hlB : decide ((i : Int) < (d.ws.length : Int)) = true := decide_eq_true (by omega)
      have hlI : (i : Int) < (d.ws.length : Int) := by omega
      have hi0 : (0 : Int) ≤ (i : Int) := by omega
      have wk1 : IntKind.i64.wrap ((i : Int) + 1) = (i : Int) + 1 := by rw [IntKind.wrap_i64]; omega
      obtain ⟨a, cap, e1, _, _, hr⟩ := hR.at_ hl
      obtain ⟨rfl, _, rfl⟩ : ao = some a ∧ True ∧ ac = cap := by simpa using e1
      have hn := hr.n
      cases hc : (d.ws[i]).n.toList == s.toList
      · have HA := Lib.hid (show ∀ j (hj : j < d.ws.length), j < i + 1 → ((d.ws[j]).n.toList == s.toList) = false from fun j hj hj2 => by
          by_cases c : j = i
          · subst c; exact hc
          · exact hall j hj (by omega))
        have HL := Lib.hid hl
        generalize d.ws[i].n = N at *
        clear hall hr hR e1 hl hi hlen
        go_wp2
        go_roundw
        case rel => exact ⟨i + 1, by have := HL.out; omega, by go_num, HA.out, trivial⟩
        case measure => have := HL.out; simp [intOf]; omega
      · have hy := Lib.hid (named_yes hl hc)
        generalize d.ws[i].n = N at *
        clear hall hr hR e1 hi hlen
        go_wp2
        go_ret
        exact ⟨by rw [hy.out]; rfl, hQ.out⟩
    · have hlB : decide ((i : Int) < (d.ws.length : Int)) = false := decide_eq_false (by omega)
      have hno := Lib.hid (named_no (ws := d.ws) (s := s) (fun j hj => hall j hj (by omega)))
      clear hall hR hi hlen
      go_wp2
      go_ret
      exact ⟨by rw [hno.out]; rfl, hQ.out⟩
theorem r8tnamed_any (wv tv fv : Value) (d : Dk) (s : ByteArray) (w : World) (h : IsDk w wv tv fv d) : Calls Try.prog 62 #[.agg #[wv, tv, fv], .string s] w fun e w' => e = .returned (.bool (namedW d.ts s)) ∧ Q w w' := by
  obtain ⟨ao, ac, bo, bc, co, cc, rfl, rfl, rfl⟩ := h.forms
  have hQ := (Q.refl w).alloc #[.slice ao d.ws.length ac, .slice bo d.ts.length bc, .slice co d.fs.length cc] 67
  have hR := h.ts.keepB hQ.b
  have hlen := h.ts.len
  have k0 : (w.alloc (.cells #[.slice ao d.ws.length ac, .slice bo d.ts.length bc, .slice co d.fs.length cc] 67)).cell? ⟨w.heap.size, 1, none⟩ = some (.slice bo d.ts.length bc) := by rw [World.cell?_alloc_new]; rfl
  replace hQ := Lib.hid hQ
  clear h
  go_enter Try.func62, Try.ntmps62
  go_wp2
  generalize w.alloc (.cells #[.slice ao d.ws.length ac, .slice bo d.ts.length bc, .slice co d.fs.length cc] 67) = W at *
  generalize w.heap.size = H at *
  go_loopw [5] (fun iv wr => ∃ i : Nat, i ≤ d.ts.length ∧ iv = .int .i64 i ∧ (∀ j (hj : j < d.ts.length), j < i → ((d.ts[j]).n.toList == s.toList) = false) ∧ W = wr) (fun iv _ => d.ts.length + 1 - (intOf iv).toNat)
  case atStart => exact ⟨0, Nat.zero_le _, rfl, fun j _ hj => by omega, rfl⟩
  case round =>
    obtain ⟨i, hi, rfl, hall, rfl⟩ := hrel
    by_cases hl : i < d.ts.length
    · have hlB : decide ((i : Int) < (d.ts.length : Int)) = true := decide_eq_true (by omega)
      have hlI : (i : Int) < (d.ts.length : Int) := by omega
      have hi0 : (0 : Int) ≤ (i : Int) := by omega
      have wk1 : IntKind.i64.wrap ((i : Int) + 1) = (i : Int) + 1 := by rw [IntKind.wrap_i64]; omega
      obtain ⟨a, cap, e1, _, _, hr⟩ := hR.at_ hl
      obtain ⟨rfl, _, rfl⟩ : bo = some a ∧ True ∧ bc = cap := by simpa using e1
      have hn := hr.n
      cases hc : (d.ts[i]).n.toList == s.toList
      · have HA := Lib.hid (show ∀ j (hj : j < d.ts.length), j < i + 1 → ((d.ts[j]).n.toList == s.toList) = false from fun j hj hj2 => by
          by_cases c : j = i
          · subst c; exact hc
          · exact hall j hj (by omega))
        have HL := Lib.hid hl
        generalize d.ts[i].n = N at *
        clear hall hr hR e1 hl hi hlen
        go_wp2
        go_roundw
        case rel => exact ⟨i + 1, by have := HL.out; omega, by go_num, HA.out, trivial⟩
        case measure => have := HL.out; simp [intOf]; omega
      · have hy := Lib.hid (named_yes hl hc)
        generalize d.ts[i].n = N at *
        clear hall hr hR e1 hi hlen
        go_wp2
        go_ret
        exact ⟨by rw [hy.out]; rfl, hQ.out⟩
    · have hlB : decide ((i : Int) < (d.ts.length : Int)) = false := decide_eq_false (by omega)
      have hno := Lib.hid (named_no (ws := d.ts) (s := s) (fun j hj => hall j hj (by omega)))
      clear hall hR hi hlen
      go_wp2
      go_ret
      exact ⟨by rw [hno.out]; rfl, hQ.out⟩
end Go.Proofs.Ytkhaephmpifcmaa

namespace Go.Proofs.Ytkhaephmpifcmaa
open Go.RowKit
def isFill (f : Fl) (n : ByteArray) (r c : Int) : Bool := (f.n.toList == n.toList) && decide (f.r = r) && decide (f.c = c)
theorem filled_yes {fs : List Fl} {n : ByteArray} {r c : Int} {i : Nat} (hi : i < fs.length) (h : isFill fs[i] n r c = true) : filledW fs n r c = true := List.any_eq_true.2 ⟨_, List.getElem_mem hi, h⟩
theorem filled_no {fs : List Fl} {n : ByteArray} {r c : Int} (h : ∀ i (hi : i < fs.length), isFill fs[i] n r c = false) : filledW fs n r c = false := by
  refine List.any_eq_false.2 fun x hx => ?_
  obtain ⟨i, hi, rfl⟩ := List.getElem_of_mem hx
  have := h i hi
  unfold isFill at this
  rw [this]
  decide
set_option maxHeartbeats 1000000 in
theorem r8filled_any (wv tv fv : Value) (d : Dk) (n : ByteArray) (r c : Int) (w : World) (h : IsDk w wv tv fv d) : Calls Try.prog 63 #[.agg #[wv, tv, fv], .agg #[.string n, .int .i64 r, .int .i64 c]] w fun e w' => e = .returned (.bool (filledW d.fs n r c)) ∧ Q w w' := by
  obtain ⟨ao, ac, bo, bc, co, cc, rfl, rfl, rfl⟩ := h.forms
  have hQ := ((Q.refl w).alloc #[.slice ao d.ws.length ac, .slice bo d.ts.length bc, .slice co d.fs.length cc] 67).alloc #[.string n, .int .i64 r, .int .i64 c] 61
  have hR := h.fs.keepB hQ.b
  have hlen := h.fs.len
  obtain ⟨W, hW⟩ : ∃ W, (w.alloc (.cells #[.slice ao d.ws.length ac, .slice bo d.ts.length bc, .slice co d.fs.length cc] 67)).alloc (.cells #[.string n, .int .i64 r, .int .i64 c] 61) = W := ⟨_, rfl⟩
  have k0 : W.cell? ⟨w.heap.size, 2, none⟩ = some (.slice co d.fs.length cc) := by rw [← hW]; exact ((Q.refl _).alloc _ _).keep (by rw [World.cell?_alloc_new]; rfl)
  have e1 : (w.alloc (.cells #[.slice ao d.ws.length ac, .slice bo d.ts.length bc, .slice co d.fs.length cc] 67)).heap.size = w.heap.size + 1 := by simp
  have k1 : W.cell? ⟨w.heap.size + 1, 0, none⟩ = some (.string n) := by rw [← hW, ← e1, World.cell?_alloc_new]; rfl
  have k2 : W.cell? ⟨w.heap.size + 1, 1, none⟩ = some (.int .i64 r) := by rw [← hW, ← e1, World.cell?_alloc_new]; rfl
  have k3 : W.cell? ⟨w.heap.size + 1, 2, none⟩ = some (.int .i64 c) := by rw [← hW, ← e1, World.cell?_alloc_new]; rfl
  rw [hW] at hR hQ
  replace hQ := Lib.hid hQ
  clear h e1
  go_enter Try.func63, Try.ntmps63
  go_wp2
  try rw [hW]
  clear hW
  generalize w.heap.size = H at *
  go_loopw [5] (fun iv wr => ∃ i : Nat, i ≤ d.fs.length ∧ iv = .int .i64 i ∧ (∀ j (hj : j < d.fs.length), j < i → isFill d.fs[j] n r c = false) ∧ Q W wr) (fun iv _ => d.fs.length + 1 - (intOf iv).toNat)
  case atStart => exact ⟨0, Nat.zero_le _, rfl, fun j _ hj => by omega, Q.refl _⟩
  case round =>
    obtain ⟨i, hi, rfl, hall, hQi⟩ := hrel
    by_cases hl : i < d.fs.length
    · have hlB : decide ((i : Int) < (d.fs.length : Int)) = true := decide_eq_true (by omega)
      have hlI : (i : Int) < (d.fs.length : Int) := by omega
      have hi0 : (0 : Int) ≤ (i : Int) := by omega
      have wk1 : IntKind.i64.wrap ((i : Int) + 1) = (i : Int) + 1 := by rw [IntKind.wrap_i64]; omega
      obtain ⟨a, cap, e1, _, _, hr⟩ := (hR.keepB hQi.b).at_ hl
      obtain ⟨rfl, _, rfl⟩ : co = some a ∧ True ∧ cc = cap := by simpa using e1
      obtain ⟨F, hF⟩ : ∃ F, d.fs[i] = F := ⟨_, rfl⟩
      rw [hF] at hr
      obtain ⟨g1, g2, g3, _⟩ := hr
      replace k0 := hQi.keep k0
      replace k1 := hQi.keep k1
      replace k2 := hQi.keep k2
      replace k3 := hQi.keep k3
      have HQ := Lib.hid (hQ.out.trans hQi)
      have HQi := Lib.hid hQi
      clear hQi hR e1
      have q2' : decide (F.r = r) = (F.r == r) := by by_cases h : F.r = r <;> simp [h]
      have q3' : decide (F.c = c) = (F.c == c) := by by_cases h : F.c = c <;> simp [h]
      cases q1 : (F.n.toList == n.toList)
      · have hf : isFill F n r c = false := by unfold isFill; rw [q1]; simp
        have HA := Lib.hid (show ∀ j (hj : j < d.fs.length), j < i + 1 → isFill d.fs[j] n r c = false from fun j hj hj2 => by
          by_cases x : j = i
          · subst x; rw [hF]; exact hf
          · exact hall j hj (by omega))
        have HL := Lib.hid hl
        clear q2' q3' hF
        clear hall hl hi hlen hf
        go_wp2_with fail
        go_quiet (fail)
        go_wp2
        go_roundw
        case rel => exact ⟨i + 1, by have := HL.out; omega, by go_num, HA.out, HQi.out.trans (show Dr _ _ from ⟨_, rfl⟩).q⟩
        case measure => have := HL.out; simp [intOf]; omega
      cases q2 : (F.r == r)
      · have hf : isFill F n r c = false := by unfold isFill; rw [q2', q2]; simp
        have HA := Lib.hid (show ∀ j (hj : j < d.fs.length), j < i + 1 → isFill d.fs[j] n r c = false from fun j hj hj2 => by
          by_cases x : j = i
          · subst x; rw [hF]; exact hf
          · exact hall j hj (by omega))
        have HL := Lib.hid hl
        clear q2' q3' hF
        clear hall hl hi hlen hf
        go_wp2_with fail
        go_quiet (fail)
        go_wp2
        go_roundw
        case rel => exact ⟨i + 1, by have := HL.out; omega, by go_num, HA.out, HQi.out.trans (show Dr _ _ from ⟨_, rfl⟩).q⟩
        case measure => have := HL.out; simp [intOf]; omega
      cases q3 : (F.c == c)
      · have hf : isFill F n r c = false := by unfold isFill; rw [q3', q3]; simp
        have HA := Lib.hid (show ∀ j (hj : j < d.fs.length), j < i + 1 → isFill d.fs[j] n r c = false from fun j hj hj2 => by
          by_cases x : j = i
          · subst x; rw [hF]; exact hf
          · exact hall j hj (by omega))
        have HL := Lib.hid hl
        clear q2' q3' hF
        clear hall hl hi hlen hf
        go_wp2_with fail
        go_quiet (fail)
        go_wp2
        go_roundw
        case rel => exact ⟨i + 1, by have := HL.out; omega, by go_num, HA.out, HQi.out.trans (show Dr _ _ from ⟨_, rfl⟩).q⟩
        case measure => have := HL.out; simp [intOf]; omega
      · have hy := Lib.hid (filled_yes (n := n) (r := r) (c := c) hl (by rw [hF]; unfold isFill; rw [q1, q2', q2, q3', q3]; rfl))
        clear q2' q3' hF
        clear hall hi hlen
        go_wp2_with fail
        go_quiet (fail)
        go_wp2
        go_ret
        exact ⟨by rw [hy.out]; rfl, HQ.out.trans (show Dr _ _ from ⟨_, rfl⟩).q⟩
    · have hlB : decide ((i : Int) < (d.fs.length : Int)) = false := decide_eq_false (by omega)
      replace k0 := hQi.keep k0
      have hno := Lib.hid (filled_no (fs := d.fs) (n := n) (r := r) (c := c) (fun j hj => hall j hj (by omega)))
      have HQ := Lib.hid (hQ.out.trans hQi)
      clear hall hR hi hlen hQi
      go_wp2
      go_ret
      exact ⟨by rw [hno.out]; rfl, HQ.out⟩
end Go.Proofs.Ytkhaephmpifcmaa

namespace Go.Proofs.Ytkhaephmpifcmaa
open Go.RowKit
/-- Each may be, and none has the name of one ahead of it. -/
def ApartW (ok : Wr → Bool) (ws : List Wr) : Prop := ∀ i w, ws[i]? = some w → ok w = true ∧ namedW (ws.take i) w.n = false
theorem apartW_iff {ok : Wr → Bool} {ws : List Wr} : apartW ok ws = true ↔ ApartW ok ws := by
  unfold apartW ApartW
  rw [List.all_eq_true]
  constructor
  · intro h i w hw
    have := h i (List.mem_range.2 (List.getElem?_eq_some_iff.1 hw).1)
    rw [hw] at this
    simpa using this
  · intro h i hi
    have hi' := List.mem_range.1 hi
    have hw : ws[i]? = some ws[i] := List.getElem?_eq_getElem hi'
    rw [hw]
    have := h i _ hw
    simpa using this
end Go.Proofs.Ytkhaephmpifcmaa
