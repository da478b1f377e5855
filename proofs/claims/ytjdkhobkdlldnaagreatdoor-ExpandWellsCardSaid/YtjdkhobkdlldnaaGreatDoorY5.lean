/-
  Contract of the code's kind of a byte; Contract of the code's Number; Contracts: the code's Name, the document's Number; The code's within; The code's wells: within, written, size, has; Contract of the document's well of a number; The code's wells: the number of a well, the well of a number.
-/
import Derived.Test.YtjdkhobkdlldnaaGreatDoorChecked
import Derived.Lib.Hide
import Derived.KernelRfl
import Derived.Lib.ConvBytes
import Derived.Test.YtjdkhobkdlldnaaGreatDoorY1
import Derived.Test.YtjdkhobkdlldnaaGreatDoorY2
import Derived.Test.YtjdkhobkdlldnaaGreatDoorY3
import Derived.Test.YtjdkhobkdlldnaaGreatDoorY4
namespace Go.Proofs.YtjdkhobkdlldnaaGreatDoor
open Go.RowKit
theorem kind_any (n : Nat) (w : World) : Calls Tryz.prog 88 #[.int .u8 (n : Int)] w fun e w' => e = .returned (.int .i64 ((kindN n : Nat) : Int)) ∧ w = w' := by
  have cs : (n < 9) ∨ (n = 9) ∨ (n = 10) ∨ (11 ≤ n ∧ n ≤ 31) ∨ (n = 32) ∨ (33 ≤ n ∧ n ≤ 34) ∨ (n = 35) ∨ (36 ≤ n ∧ n ≤ 45) ∨ (n = 46) ∨ (n = 47) ∨ (48 ≤ n ∧ n ≤ 57) ∨ (58 ≤ n ∧ n ≤ 64) ∨ (65 ≤ n ∧ n ≤ 90) ∨ (91 ≤ n ∧ n ≤ 96) ∨ (97 ≤ n ∧ n ≤ 122) ∨ (122 < n) := by omega
  rcases cs with c | c | c | c | c | c | c | c | c | c | c | c | c | c | c | c
  · have hk : kindN n = 0 := by unfold kindN lowN capN digN; simp only [Bool.and_eq_true, decide_eq_true_eq]; repeat (first | rw [if_pos (by omega)] | rw [if_neg (by omega)])
    rw [hk]
    have g97 : decide ((97 : Int) ≤ (n : Int)) = false := decide_eq_false (by omega)
    have g65 : decide ((65 : Int) ≤ (n : Int)) = false := decide_eq_false (by omega)
    have g48 : decide ((48 : Int) ≤ (n : Int)) = false := decide_eq_false (by omega)
    have l122 : decide ((n : Int) ≤ 122) = true := decide_eq_true (by omega)
    have l90 : decide ((n : Int) ≤ 90) = true := decide_eq_true (by omega)
    have l57 : decide ((n : Int) ≤ 57) = true := decide_eq_true (by omega)
    have e46 : ((n : Int) == 46) = false := by simp; omega
    have e32 : ((n : Int) == 32) = false := by simp; omega
    have e9 : ((n : Int) == 9) = false := by simp; omega
    have e10 : ((n : Int) == 10) = false := by simp; omega
    have e35 : ((n : Int) == 35) = false := by simp; omega
    clear c hk
    go_enter Tryz.func88, Tryz.ntmps88
    go_wp2
    go_ret
    exact ⟨rfl, rfl⟩
  · have hk : kindN n = 5 := by unfold kindN lowN capN digN; simp only [Bool.and_eq_true, decide_eq_true_eq]; repeat (first | rw [if_pos (by omega)] | rw [if_neg (by omega)])
    rw [hk]
    have g97 : decide ((97 : Int) ≤ (n : Int)) = false := decide_eq_false (by omega)
    have g65 : decide ((65 : Int) ≤ (n : Int)) = false := decide_eq_false (by omega)
    have g48 : decide ((48 : Int) ≤ (n : Int)) = false := decide_eq_false (by omega)
    have l122 : decide ((n : Int) ≤ 122) = true := decide_eq_true (by omega)
    have l90 : decide ((n : Int) ≤ 90) = true := decide_eq_true (by omega)
    have l57 : decide ((n : Int) ≤ 57) = true := decide_eq_true (by omega)
    have e46 : ((n : Int) == 46) = false := by simp; omega
    have e32 : ((n : Int) == 32) = false := by simp; omega
    have e9 : ((n : Int) == 9) = true := by simp; omega
    have e10 : ((n : Int) == 10) = false := by simp; omega
    have e35 : ((n : Int) == 35) = false := by simp; omega
    clear c hk
    go_enter Tryz.func88, Tryz.ntmps88
    go_wp2
    go_ret
    exact ⟨rfl, rfl⟩
  · have hk : kindN n = 6 := by unfold kindN lowN capN digN; simp only [Bool.and_eq_true, decide_eq_true_eq]; repeat (first | rw [if_pos (by omega)] | rw [if_neg (by omega)])
    rw [hk]
    have g97 : decide ((97 : Int) ≤ (n : Int)) = false := decide_eq_false (by omega)
    have g65 : decide ((65 : Int) ≤ (n : Int)) = false := decide_eq_false (by omega)
    have g48 : decide ((48 : Int) ≤ (n : Int)) = false := decide_eq_false (by omega)
    have l122 : decide ((n : Int) ≤ 122) = true := decide_eq_true (by omega)
    have l90 : decide ((n : Int) ≤ 90) = true := decide_eq_true (by omega)
    have l57 : decide ((n : Int) ≤ 57) = true := decide_eq_true (by omega)
    have e46 : ((n : Int) == 46) = false := by simp; omega
    have e32 : ((n : Int) == 32) = false := by simp; omega
    have e9 : ((n : Int) == 9) = false := by simp; omega
    have e10 : ((n : Int) == 10) = true := by simp; omega
    have e35 : ((n : Int) == 35) = false := by simp; omega
    clear c hk
    go_enter Tryz.func88, Tryz.ntmps88
    go_wp2
    go_ret
    exact ⟨rfl, rfl⟩
  · have hk : kindN n = 0 := by unfold kindN lowN capN digN; simp only [Bool.and_eq_true, decide_eq_true_eq]; repeat (first | rw [if_pos (by omega)] | rw [if_neg (by omega)])
    rw [hk]
    have g97 : decide ((97 : Int) ≤ (n : Int)) = false := decide_eq_false (by omega)
    have g65 : decide ((65 : Int) ≤ (n : Int)) = false := decide_eq_false (by omega)
    have g48 : decide ((48 : Int) ≤ (n : Int)) = false := decide_eq_false (by omega)
    have l122 : decide ((n : Int) ≤ 122) = true := decide_eq_true (by omega)
    have l90 : decide ((n : Int) ≤ 90) = true := decide_eq_true (by omega)
    have l57 : decide ((n : Int) ≤ 57) = true := decide_eq_true (by omega)
    have e46 : ((n : Int) == 46) = false := by simp; omega
    have e32 : ((n : Int) == 32) = false := by simp; omega
    have e9 : ((n : Int) == 9) = false := by simp; omega
    have e10 : ((n : Int) == 10) = false := by simp; omega
    have e35 : ((n : Int) == 35) = false := by simp; omega
    clear c hk
    go_enter Tryz.func88, Tryz.ntmps88
    go_wp2
    go_ret
    exact ⟨rfl, rfl⟩
  · have hk : kindN n = 5 := by unfold kindN lowN capN digN; simp only [Bool.and_eq_true, decide_eq_true_eq]; repeat (first | rw [if_pos (by omega)] | rw [if_neg (by omega)])
    rw [hk]
    have g97 : decide ((97 : Int) ≤ (n : Int)) = false := decide_eq_false (by omega)
    have g65 : decide ((65 : Int) ≤ (n : Int)) = false := decide_eq_false (by omega)
    have g48 : decide ((48 : Int) ≤ (n : Int)) = false := decide_eq_false (by omega)
    have l122 : decide ((n : Int) ≤ 122) = true := decide_eq_true (by omega)
    have l90 : decide ((n : Int) ≤ 90) = true := decide_eq_true (by omega)
    have l57 : decide ((n : Int) ≤ 57) = true := decide_eq_true (by omega)
    have e46 : ((n : Int) == 46) = false := by simp; omega
    have e32 : ((n : Int) == 32) = true := by simp; omega
    have e9 : ((n : Int) == 9) = false := by simp; omega
    have e10 : ((n : Int) == 10) = false := by simp; omega
    have e35 : ((n : Int) == 35) = false := by simp; omega
    clear c hk
    go_enter Tryz.func88, Tryz.ntmps88
    go_wp2
    go_ret
    exact ⟨rfl, rfl⟩
  · have hk : kindN n = 0 := by unfold kindN lowN capN digN; simp only [Bool.and_eq_true, decide_eq_true_eq]; repeat (first | rw [if_pos (by omega)] | rw [if_neg (by omega)])
    rw [hk]
    have g97 : decide ((97 : Int) ≤ (n : Int)) = false := decide_eq_false (by omega)
    have g65 : decide ((65 : Int) ≤ (n : Int)) = false := decide_eq_false (by omega)
    have g48 : decide ((48 : Int) ≤ (n : Int)) = false := decide_eq_false (by omega)
    have l122 : decide ((n : Int) ≤ 122) = true := decide_eq_true (by omega)
    have l90 : decide ((n : Int) ≤ 90) = true := decide_eq_true (by omega)
    have l57 : decide ((n : Int) ≤ 57) = true := decide_eq_true (by omega)
    have e46 : ((n : Int) == 46) = false := by simp; omega
    have e32 : ((n : Int) == 32) = false := by simp; omega
    have e9 : ((n : Int) == 9) = false := by simp; omega
    have e10 : ((n : Int) == 10) = false := by simp; omega
    have e35 : ((n : Int) == 35) = false := by simp; omega
    clear c hk
    go_enter Tryz.func88, Tryz.ntmps88
    go_wp2
    go_ret
    exact ⟨rfl, rfl⟩
  · have hk : kindN n = 7 := by unfold kindN lowN capN digN; simp only [Bool.and_eq_true, decide_eq_true_eq]; repeat (first | rw [if_pos (by omega)] | rw [if_neg (by omega)])
    rw [hk]
    have g97 : decide ((97 : Int) ≤ (n : Int)) = false := decide_eq_false (by omega)
    have g65 : decide ((65 : Int) ≤ (n : Int)) = false := decide_eq_false (by omega)
    have g48 : decide ((48 : Int) ≤ (n : Int)) = false := decide_eq_false (by omega)
    have l122 : decide ((n : Int) ≤ 122) = true := decide_eq_true (by omega)
    have l90 : decide ((n : Int) ≤ 90) = true := decide_eq_true (by omega)
    have l57 : decide ((n : Int) ≤ 57) = true := decide_eq_true (by omega)
    have e46 : ((n : Int) == 46) = false := by simp; omega
    have e32 : ((n : Int) == 32) = false := by simp; omega
    have e9 : ((n : Int) == 9) = false := by simp; omega
    have e10 : ((n : Int) == 10) = false := by simp; omega
    have e35 : ((n : Int) == 35) = true := by simp; omega
    clear c hk
    go_enter Tryz.func88, Tryz.ntmps88
    go_wp2
    go_ret
    exact ⟨rfl, rfl⟩
  · have hk : kindN n = 0 := by unfold kindN lowN capN digN; simp only [Bool.and_eq_true, decide_eq_true_eq]; repeat (first | rw [if_pos (by omega)] | rw [if_neg (by omega)])
    rw [hk]
    have g97 : decide ((97 : Int) ≤ (n : Int)) = false := decide_eq_false (by omega)
    have g65 : decide ((65 : Int) ≤ (n : Int)) = false := decide_eq_false (by omega)
    have g48 : decide ((48 : Int) ≤ (n : Int)) = false := decide_eq_false (by omega)
    have l122 : decide ((n : Int) ≤ 122) = true := decide_eq_true (by omega)
    have l90 : decide ((n : Int) ≤ 90) = true := decide_eq_true (by omega)
    have l57 : decide ((n : Int) ≤ 57) = true := decide_eq_true (by omega)
    have e46 : ((n : Int) == 46) = false := by simp; omega
    have e32 : ((n : Int) == 32) = false := by simp; omega
    have e9 : ((n : Int) == 9) = false := by simp; omega
    have e10 : ((n : Int) == 10) = false := by simp; omega
    have e35 : ((n : Int) == 35) = false := by simp; omega
    clear c hk
    go_enter Tryz.func88, Tryz.ntmps88
    go_wp2
    go_ret
    exact ⟨rfl, rfl⟩
  · have hk : kindN n = 4 := by unfold kindN lowN capN digN; simp only [Bool.and_eq_true, decide_eq_true_eq]; repeat (first | rw [if_pos (by omega)] | rw [if_neg (by omega)])
    rw [hk]
    have g97 : decide ((97 : Int) ≤ (n : Int)) = false := decide_eq_false (by omega)
    have g65 : decide ((65 : Int) ≤ (n : Int)) = false := decide_eq_false (by omega)
    have g48 : decide ((48 : Int) ≤ (n : Int)) = false := decide_eq_false (by omega)
    have l122 : decide ((n : Int) ≤ 122) = true := decide_eq_true (by omega)
    have l90 : decide ((n : Int) ≤ 90) = true := decide_eq_true (by omega)
    have l57 : decide ((n : Int) ≤ 57) = true := decide_eq_true (by omega)
    have e46 : ((n : Int) == 46) = true := by simp; omega
    have e32 : ((n : Int) == 32) = false := by simp; omega
    have e9 : ((n : Int) == 9) = false := by simp; omega
    have e10 : ((n : Int) == 10) = false := by simp; omega
    have e35 : ((n : Int) == 35) = false := by simp; omega
    clear c hk
    go_enter Tryz.func88, Tryz.ntmps88
    go_wp2
    go_ret
    exact ⟨rfl, rfl⟩
  · have hk : kindN n = 0 := by unfold kindN lowN capN digN; simp only [Bool.and_eq_true, decide_eq_true_eq]; repeat (first | rw [if_pos (by omega)] | rw [if_neg (by omega)])
    rw [hk]
    have g97 : decide ((97 : Int) ≤ (n : Int)) = false := decide_eq_false (by omega)
    have g65 : decide ((65 : Int) ≤ (n : Int)) = false := decide_eq_false (by omega)
    have g48 : decide ((48 : Int) ≤ (n : Int)) = false := decide_eq_false (by omega)
    have l122 : decide ((n : Int) ≤ 122) = true := decide_eq_true (by omega)
    have l90 : decide ((n : Int) ≤ 90) = true := decide_eq_true (by omega)
    have l57 : decide ((n : Int) ≤ 57) = true := decide_eq_true (by omega)
    have e46 : ((n : Int) == 46) = false := by simp; omega
    have e32 : ((n : Int) == 32) = false := by simp; omega
    have e9 : ((n : Int) == 9) = false := by simp; omega
    have e10 : ((n : Int) == 10) = false := by simp; omega
    have e35 : ((n : Int) == 35) = false := by simp; omega
    clear c hk
    go_enter Tryz.func88, Tryz.ntmps88
    go_wp2
    go_ret
    exact ⟨rfl, rfl⟩
  · have hk : kindN n = 3 := by unfold kindN lowN capN digN; simp only [Bool.and_eq_true, decide_eq_true_eq]; repeat (first | rw [if_pos (by omega)] | rw [if_neg (by omega)])
    rw [hk]
    have g97 : decide ((97 : Int) ≤ (n : Int)) = false := decide_eq_false (by omega)
    have g65 : decide ((65 : Int) ≤ (n : Int)) = false := decide_eq_false (by omega)
    have g48 : decide ((48 : Int) ≤ (n : Int)) = true := decide_eq_true (by omega)
    have l122 : decide ((n : Int) ≤ 122) = true := decide_eq_true (by omega)
    have l90 : decide ((n : Int) ≤ 90) = true := decide_eq_true (by omega)
    have l57 : decide ((n : Int) ≤ 57) = true := decide_eq_true (by omega)
    have e46 : ((n : Int) == 46) = false := by simp; omega
    have e32 : ((n : Int) == 32) = false := by simp; omega
    have e9 : ((n : Int) == 9) = false := by simp; omega
    have e10 : ((n : Int) == 10) = false := by simp; omega
    have e35 : ((n : Int) == 35) = false := by simp; omega
    clear c hk
    go_enter Tryz.func88, Tryz.ntmps88
    go_wp2
    go_ret
    exact ⟨rfl, rfl⟩
  · have hk : kindN n = 0 := by unfold kindN lowN capN digN; simp only [Bool.and_eq_true, decide_eq_true_eq]; repeat (first | rw [if_pos (by omega)] | rw [if_neg (by omega)])
    rw [hk]
    have g97 : decide ((97 : Int) ≤ (n : Int)) = false := decide_eq_false (by omega)
    have g65 : decide ((65 : Int) ≤ (n : Int)) = false := decide_eq_false (by omega)
    have g48 : decide ((48 : Int) ≤ (n : Int)) = true := decide_eq_true (by omega)
    have l122 : decide ((n : Int) ≤ 122) = true := decide_eq_true (by omega)
    have l90 : decide ((n : Int) ≤ 90) = true := decide_eq_true (by omega)
    have l57 : decide ((n : Int) ≤ 57) = false := decide_eq_false (by omega)
    have e46 : ((n : Int) == 46) = false := by simp; omega
    have e32 : ((n : Int) == 32) = false := by simp; omega
    have e9 : ((n : Int) == 9) = false := by simp; omega
    have e10 : ((n : Int) == 10) = false := by simp; omega
    have e35 : ((n : Int) == 35) = false := by simp; omega
    clear c hk
    go_enter Tryz.func88, Tryz.ntmps88
    go_wp2
    go_ret
    exact ⟨rfl, rfl⟩
  · have hk : kindN n = 2 := by unfold kindN lowN capN digN; simp only [Bool.and_eq_true, decide_eq_true_eq]; repeat (first | rw [if_pos (by omega)] | rw [if_neg (by omega)])
    rw [hk]
    have g97 : decide ((97 : Int) ≤ (n : Int)) = false := decide_eq_false (by omega)
    have g65 : decide ((65 : Int) ≤ (n : Int)) = true := decide_eq_true (by omega)
    have g48 : decide ((48 : Int) ≤ (n : Int)) = true := decide_eq_true (by omega)
    have l122 : decide ((n : Int) ≤ 122) = true := decide_eq_true (by omega)
    have l90 : decide ((n : Int) ≤ 90) = true := decide_eq_true (by omega)
    have l57 : decide ((n : Int) ≤ 57) = false := decide_eq_false (by omega)
    have e46 : ((n : Int) == 46) = false := by simp; omega
    have e32 : ((n : Int) == 32) = false := by simp; omega
    have e9 : ((n : Int) == 9) = false := by simp; omega
    have e10 : ((n : Int) == 10) = false := by simp; omega
    have e35 : ((n : Int) == 35) = false := by simp; omega
    clear c hk
    go_enter Tryz.func88, Tryz.ntmps88
    go_wp2
    go_ret
    exact ⟨rfl, rfl⟩
  · have hk : kindN n = 0 := by unfold kindN lowN capN digN; simp only [Bool.and_eq_true, decide_eq_true_eq]; repeat (first | rw [if_pos (by omega)] | rw [if_neg (by omega)])
    rw [hk]
    have g97 : decide ((97 : Int) ≤ (n : Int)) = false := decide_eq_false (by omega)
    have g65 : decide ((65 : Int) ≤ (n : Int)) = true := decide_eq_true (by omega)
    have g48 : decide ((48 : Int) ≤ (n : Int)) = true := decide_eq_true (by omega)
    have l122 : decide ((n : Int) ≤ 122) = true := decide_eq_true (by omega)
    have l90 : decide ((n : Int) ≤ 90) = false := decide_eq_false (by omega)
    have l57 : decide ((n : Int) ≤ 57) = false := decide_eq_false (by omega)
    have e46 : ((n : Int) == 46) = false := by simp; omega
    have e32 : ((n : Int) == 32) = false := by simp; omega
    have e9 : ((n : Int) == 9) = false := by simp; omega
    have e10 : ((n : Int) == 10) = false := by simp; omega
    have e35 : ((n : Int) == 35) = false := by simp; omega
    clear c hk
    go_enter Tryz.func88, Tryz.ntmps88
    go_wp2
    go_ret
    exact ⟨rfl, rfl⟩
  · have hk : kindN n = 1 := by unfold kindN lowN capN digN; simp only [Bool.and_eq_true, decide_eq_true_eq]; repeat (first | rw [if_pos (by omega)] | rw [if_neg (by omega)])
    rw [hk]
    have g97 : decide ((97 : Int) ≤ (n : Int)) = true := decide_eq_true (by omega)
    have g65 : decide ((65 : Int) ≤ (n : Int)) = true := decide_eq_true (by omega)
    have g48 : decide ((48 : Int) ≤ (n : Int)) = true := decide_eq_true (by omega)
    have l122 : decide ((n : Int) ≤ 122) = true := decide_eq_true (by omega)
    have l90 : decide ((n : Int) ≤ 90) = false := decide_eq_false (by omega)
    have l57 : decide ((n : Int) ≤ 57) = false := decide_eq_false (by omega)
    have e46 : ((n : Int) == 46) = false := by simp; omega
    have e32 : ((n : Int) == 32) = false := by simp; omega
    have e9 : ((n : Int) == 9) = false := by simp; omega
    have e10 : ((n : Int) == 10) = false := by simp; omega
    have e35 : ((n : Int) == 35) = false := by simp; omega
    clear c hk
    go_enter Tryz.func88, Tryz.ntmps88
    go_wp2
    go_ret
    exact ⟨rfl, rfl⟩
  · have hk : kindN n = 0 := by unfold kindN lowN capN digN; simp only [Bool.and_eq_true, decide_eq_true_eq]; repeat (first | rw [if_pos (by omega)] | rw [if_neg (by omega)])
    rw [hk]
    have g97 : decide ((97 : Int) ≤ (n : Int)) = true := decide_eq_true (by omega)
    have g65 : decide ((65 : Int) ≤ (n : Int)) = true := decide_eq_true (by omega)
    have g48 : decide ((48 : Int) ≤ (n : Int)) = true := decide_eq_true (by omega)
    have l122 : decide ((n : Int) ≤ 122) = false := decide_eq_false (by omega)
    have l90 : decide ((n : Int) ≤ 90) = false := decide_eq_false (by omega)
    have l57 : decide ((n : Int) ≤ 57) = false := decide_eq_false (by omega)
    have e46 : ((n : Int) == 46) = false := by simp; omega
    have e32 : ((n : Int) == 32) = false := by simp; omega
    have e9 : ((n : Int) == 9) = false := by simp; omega
    have e10 : ((n : Int) == 10) = false := by simp; omega
    have e35 : ((n : Int) == 35) = false := by simp; omega
    clear c hk
    go_enter Tryz.func88, Tryz.ntmps88
    go_wp2
    go_ret
    exact ⟨rfl, rfl⟩
end Go.Proofs.YtjdkhobkdlldnaaGreatDoor

namespace Go.Proofs.YtjdkhobkdlldnaaGreatDoor
open Go.RowKit
theorem B.bytes {a w : World} (h : B a w) (e : TypeId) (s : ByteArray) : B a (Lib.bytesWorld w e s) :=
  ⟨⟨h.below.os, h.below.tape, h.below.output, by rw [Lib.bytesWorld_size]; have := h.below.size; omega, fun k hk => by
    rw [Lib.bytesWorld_at_old w e s k (Nat.lt_of_lt_of_le hk h.below.size)]
    exact h.below.block k hk⟩⟩
theorem kind_dig {n : Nat} : digN n = true ↔ kindN n = 3 := by
  constructor
  · intro h
    have := digN_iff.1 h
    unfold kindN lowN capN
    simp only [Bool.and_eq_true, decide_eq_true_eq]
    rw [if_neg (by omega), if_neg (by omega), if_pos h]
  · intro h
    unfold kindN at h
    split at h; · omega
    split at h; · omega
    split at h
    · assumption
    repeat' (split at h)
    all_goals omega
end Go.Proofs.YtjdkhobkdlldnaaGreatDoor

namespace Go.Proofs.YtjdkhobkdlldnaaGreatDoor
open Go.RowKit
theorem kind_low {n : Nat} : lowN n = true ↔ kindN n = 1 := by
  constructor
  · intro h
    unfold kindN
    rw [if_pos h]
  · intro h
    unfold kindN at h
    split at h
    · assumption
    repeat' (split at h)
    all_goals omega
set_option maxHeartbeats 1000000 in
theorem name_any (s : ByteArray) (w : World) : Calls Tryz.prog 68 #[.string s] w fun e w' => e = .returned (.bool (nameS s)) ∧ B w w' := by
  have hE := toList_empty s
  by_cases h2 : 16 < s.size
  · have h2B : decide ((16 : Int) < (s.size : Int)) = true := decide_eq_true (by omega)
    rw [nameS_size (.inr h2)]
    clear h2 hE
    go_enter Tryz.func68, Tryz.ntmps68
    go_wp2
    go_ret
    exact ⟨rfl, B.refl _⟩
  have h2B : decide ((16 : Int) < (s.size : Int)) = false := decide_eq_false (by omega)
  by_cases h1 : s.size < 1
  · rw [decide_eq_true h1] at hE
    rw [nameS_size (.inl h1)]
    clear h1 h2
    go_enter Tryz.func68, Tryz.ntmps68
    go_wp2
    go_ret
    exact ⟨rfl, B.refl _⟩
  rw [decide_eq_false h1] at hE
  have hz : (0 : Int) < (s.size : Int) := by omega
  have hz' : 0 < s.size := by omega
  have hg0 : ∀ h : 0 < s.size, (s[0]'h).toNat = byteAt s 0 := fun h => byteAt_get s 0 h
  have ck := fun w => kind_any (byteAt s 0) w
  cases h3 : lowN (byteAt s 0)
  · have hK : ((kindN (byteAt s 0) : Int) != 1) = true := by
      have : kindN (byteAt s 0) ≠ 1 := fun e => by rw [kind_low.2 e] at h3; cases h3
      simp; omega
    rw [nameS_first h3]
    obtain ⟨m, hm⟩ : ∃ m, byteAt s 0 = m := ⟨_, rfl⟩
    rw [hm] at hg0 hK ck
    generalize kindN m = K at *
    clear h1 h2 h3 hm
    go_enter Tryz.func68, Tryz.ntmps68
    go_wp2_with fail
    refine (ck _).mono ?_
    rintro e w1 ⟨rfl, rfl⟩
    go_wp2
    go_ret
    exact ⟨rfl, B.refl _⟩
  have hK : ((kindN (byteAt s 0) : Int) != 1) = false := by
    have := kind_low.1 h3
    simp; omega
  have hconv := fun w => Lib.run_convert_string_bytes (P := Tryz.prog) w 9 47 5 s Tryz.underlying9 Tryz.underlying47 Tryz.underlying5
  have hcell : ∀ j, j < s.size → (Lib.bytesWorld w 5 s).cell? ⟨w.heap.size, j, none⟩ = some (.int .u8 ((byteAt s j : Nat) : Int)) := fun j hj => Lib.bytesWorld_cell w _ s j hj
  have HB := Lib.hid ((B.refl w).bytes 5 s)
  have hgood := Lib.hid (fun h => nameS_good (s := s) (by omega) (by omega) h3 h)
  have hbad := Lib.hid (show ∀ i, i < s.size → (lowN (byteAt s i) || digN (byteAt s i)) = false → nameS s = false from fun i h1 h2 => nameS_bad h1 h2)
  generalize nameS s = R at *
  have HSZ := Lib.hid (show s.size ≤ 16 by omega)
  generalize hb0 : byteAt s 0 = b0 at hg0 hK ck
  generalize kindN b0 = K at *
  clear h1 h2 h3 hb0
  go_enter Tryz.func68, Tryz.ntmps68
  go_wp2_with fail
  refine (ck _).mono ?_
  rintro e w1 ⟨rfl, rfl⟩
  clear ck
  go_wp2
  clear hg0 hK hE h2B
  generalize Lib.bytesWorld w 5 s = W1 at *
  generalize w.heap.size = H at *
  go_loopw [22] (fun iv wr => ∃ k : Nat, k ≤ s.size ∧ iv = .int .i64 k ∧ (∀ j, j < k → (lowN (byteAt s j) || digN (byteAt s j)) = true) ∧ W1 = wr) (fun iv _ => s.size + 1 - (intOf iv).toNat)
  case atStart => exact ⟨0, Nat.zero_le _, rfl, fun j hj => by omega, rfl⟩
  case round =>
    obtain ⟨k, hk, rfl, hall, rfl⟩ := hrel
    by_cases hl : k < s.size
    · have hlB : decide ((k : Int) < (s.size : Int)) = true := decide_eq_true (by omega)
      have hlI : (k : Int) < (s.size : Int) := by omega
      have wk1 : IntKind.i64.wrap ((k : Int) + 1) = (k : Int) + 1 := by have := HSZ.out; rw [IntKind.wrap_i64]; omega
      have hc := hcell k hl
      have ck := fun w => kind_any (byteAt s k) w
      have hnext : (lowN (byteAt s k) || digN (byteAt s k)) = true → ∀ j, j < k + 1 → (lowN (byteAt s j) || digN (byteAt s j)) = true := fun h j hj => by
        by_cases c : j = k
        · subst c; exact h
        · exact hall j (by omega)
      obtain ⟨m, hm⟩ : ∃ m, byteAt s k = m := ⟨_, rfl⟩
      have hb := hbad.out k hl
      rw [hm] at hc ck hnext hb
      by_cases c1 : kindN m = 1
      · have hK : ((kindN m : Int) != 1) = false := by simp; omega
        have HA := Lib.hid (And.intro (hnext (by rw [kind_low.2 c1]; rfl)) hl)
        generalize kindN m = K at *
        clear hnext hb hall hm c1 hcell hbad hgood HB hl hk
        go_wp2_with fail
        refine (ck _).mono ?_
        rintro e w1 ⟨rfl, rfl⟩
        clear ck
        go_wp2
        go_roundw
        case rel => exact ⟨k + 1, by have := HA.out.2; omega, by go_num, HA.out.1, trivial⟩
        case measure => have := HA.out.2; simp [intOf]; omega
      by_cases c3 : kindN m = 3
      · have hK : ((kindN m : Int) != 1) = true := by simp; omega
        have hK3 : ((kindN m : Int) != 3) = false := by simp; omega
        have HA := Lib.hid (And.intro (hnext (by rw [kind_dig.2 c3]; simp)) hl)
        generalize kindN m = K at *
        clear hnext hb hall hm c1 c3 hcell hbad hgood HB hl hk
        go_wp2_with fail
        refine (ck _).mono ?_
        rintro e w1 ⟨rfl, rfl⟩
        clear ck
        go_wp2
        go_roundw
        case rel => exact ⟨k + 1, by have := HA.out.2; omega, by go_num, HA.out.1, trivial⟩
        case measure => have := HA.out.2; simp [intOf]; omega
      · have hK : ((kindN m : Int) != 1) = true := by simp; omega
        have hK3 : ((kindN m : Int) != 3) = true := by simp; omega
        have e1 : lowN m = false := by
          cases h : lowN m
          · rfl
          · exact absurd (kind_low.1 h) c1
        have e3 : digN m = false := by
          cases h : digN m
          · rfl
          · exact absurd (kind_dig.1 h) c3
        obtain rfl := hb (by rw [e1, e3]; rfl)
        generalize kindN m = K at *
        clear hnext hb hall hm c1 c3 e1 e3 hcell hbad hgood hl hk
        go_wp2_with fail
        refine (ck _).mono ?_
        rintro e w1 ⟨rfl, rfl⟩
        clear ck
        go_wp2
        go_ret
        exact ⟨rfl, HB.out⟩
    · have hlB : decide ((k : Int) < (s.size : Int)) = false := decide_eq_false (by omega)
      have HR := Lib.hid (hgood.out (fun i hi => hall i (by omega)))
      clear hall hgood hbad hcell hk
      go_wp2
      go_ret
      exact ⟨by rw [HR.out]; rfl, HB.out⟩
end Go.Proofs.YtjdkhobkdlldnaaGreatDoor

namespace Go.Proofs.YtjdkhobkdlldnaaGreatDoor
open Go.RowKit
set_option linter.unusedVariables false
theorem wwithin_any (v e : Int) (w : World) : Calls Tryz.prog 139 #[.int .i64 v, .int .i64 e] w fun x w' => x = .returned (.bool (decide (0 ≤ v) && decide (v < e))) ∧ w = w' := by
  cases k1 : decide ((0 : Int) ≤ v)
  · go_enter Tryz.func139, Tryz.ntmps139
    go_wp2
    go_ret
    exact ⟨by simp [*], rfl⟩
  · cases k2 : decide (v < e)
    all_goals
      go_enter Tryz.func139, Tryz.ntmps139
      go_wp2
      go_ret
      exact ⟨by simp [*], rfl⟩
end Go.Proofs.YtjdkhobkdlldnaaGreatDoor

namespace Go.Proofs.YtjdkhobkdlldnaaGreatDoor
open Go.RowKit
set_option linter.unusedVariables false
theorem wsize_any (N : ByteArray) (X Y Z : Int) (sv : Value) (so : Option Addr) (sn sc : Nat) (hsv : sv = .slice so sn sc) (hb : 1 ≤ X ∧ X ≤ 8 ∧ 1 ≤ Y ∧ Y ≤ 12) (w : World) : Calls Tryz.prog 128 #[.agg #[.string N, .int .i64 X, .int .i64 Y, .int .i64 Z, sv]] w fun x w' => x = .returned (.int .i64 (X * Y)) ∧ Q w w' := by
  subst hsv
  obtain ⟨b1, b2, b3, b4⟩ := hb
  have hQ := (Q.refl w).alloc #[.string N, .int .i64 X, .int .i64 Y, .int .i64 Z, .slice so sn sc] 33
  have hxy := mul_small (a := X) (b := Y) (by omega) b2 (by omega) b4
  obtain ⟨P, hP⟩ : ∃ P, X * Y = P := ⟨_, rfl⟩
  rw [hP] at hxy ⊢
  have w1 : IntKind.i64.wrap (X * Y) = P := by rw [hP, IntKind.wrap_i64]; omega
  have k1 : decide (X < 1) = false := decide_eq_false (by omega)
  have k2 : decide ((8 : Int) < X) = false := decide_eq_false (by omega)
  have k3 : decide (Y < 1) = false := decide_eq_false (by omega)
  have k4 : decide ((12 : Int) < Y) = false := decide_eq_false (by omega)
  have HQ := Lib.hid hQ
  clear hP hxy b1 b2 b3 b4 hQ
  go_enter Tryz.func128, Tryz.ntmps128
  go_wp2
  go_ret
  exact ⟨rfl, HQ.out⟩
/-- Has a ware that well? -/
def hasB (N : ByteArray) (X Y : Int) (n : ByteArray) (r c : Int) : Bool := (N.toList == n.toList) && (decide (0 ≤ r) && decide (r < X)) && (decide (0 ≤ c) && decide (c < Y))
theorem whas_any (N : ByteArray) (X Y Z : Int) (sv : Value) (so : Option Addr) (sn sc : Nat) (hsv : sv = .slice so sn sc) (n : ByteArray) (r c : Int) (hX : I64 X) (hY : I64 Y) (hr : I64 r) (hc : I64 c) (w : World) : Calls Tryz.prog 127 #[.agg #[.string N, .int .i64 X, .int .i64 Y, .int .i64 Z, sv], .agg #[.string n, .int .i64 r, .int .i64 c]] w fun x w' => x = .returned (.bool (hasB N X Y n r c)) ∧ Q w w' := by
  subst hsv
  have hQ := ((Q.refl w).alloc #[.string N, .int .i64 X, .int .i64 Y, .int .i64 Z, .slice so sn sc] 33).alloc #[.string n, .int .i64 r, .int .i64 c] 39
  have cr := fun w => wwithin_any r X w
  have cc := fun w => wwithin_any c Y w
  have u1 : IntKind.i64.wrap X = X := by rw [IntKind.wrap_i64]; unfold I64 at hX; omega
  have u2 : IntKind.i64.wrap Y = Y := by rw [IntKind.wrap_i64]; unfold I64 at hY; omega
  have u3 : IntKind.i64.wrap r = r := by rw [IntKind.wrap_i64]; unfold I64 at hr; omega
  have u4 : IntKind.i64.wrap c = c := by rw [IntKind.wrap_i64]; unfold I64 at hc; omega
  have HQ := Lib.hid hQ
  clear hQ hX hY hr hc
  unfold hasB
  generalize (decide (0 ≤ r) && decide (r < X)) = b2 at *
  generalize (decide (0 ≤ c) && decide (c < Y)) = b3 at *
  cases hb : (N.toList == n.toList)
  · go_enter Tryz.func127, Tryz.ntmps127
    go_wp2
    go_ret
    exact ⟨rfl, HQ.out⟩
  · cases b2
    · go_enter Tryz.func127, Tryz.ntmps127
      go_wp2_with fail
      refine (cr _).mono ?_
      rintro _ _ ⟨rfl, rfl⟩
      go_wp2
      go_ret
      exact ⟨rfl, HQ.out⟩
    · go_enter Tryz.func127, Tryz.ntmps127
      go_wp2_with fail
      refine (cr _).mono ?_
      rintro _ _ ⟨rfl, rfl⟩
      go_wp2_with fail
      refine (cc _).mono ?_
      rintro _ _ ⟨rfl, rfl⟩
      go_wp2
      go_ret
      exact ⟨by cases b3 <;> rfl, HQ.out⟩
end Go.Proofs.YtjdkhobkdlldnaaGreatDoor

namespace Go.Proofs.YtjdkhobkdlldnaaGreatDoor
open Go.RowKit
set_option linter.unusedVariables false
/-- The well of a number. -/
def atW : List Wr → Int → Option (ByteArray × Int × Int)
  | [], _ => none
  | w :: ws, k => if k < 0 then none else if k < w.x * w.y then some (w.n, k / w.y, k % w.y) else atW ws (k - w.x * w.y)
def wellV : Option (ByteArray × Int × Int) → Value
  | none => .agg #[.string ⟨#[]⟩, .int .i64 0, .int .i64 0]
  | some (n, r, c) => .agg #[.string n, .int .i64 r, .int .i64 c]
theorem at_cons {ws : List Wr} {i : Nat} (hi : i < ws.length) (k : Int) : atW (ws.drop i) k = if k < 0 then none else if k < (ws[i]).x * (ws[i]).y then some ((ws[i]).n, k / (ws[i]).y, k % (ws[i]).y) else atW (ws.drop (i + 1)) (k - (ws[i]).x * (ws[i]).y) := by
  rw [List.drop_eq_getElem_cons hi]
  rfl
theorem at_neg {k : Int} (hk : k < 0) : ∀ ws : List Wr, atW ws k = none
  | [] => rfl
  | w :: ws => by rw [atW, if_pos hk]
set_option maxRecDepth 100000 in
set_option maxHeartbeats 2000000 in
theorem r8at_any (wv tv fv : Value) (d : Dk) (k : Int) (hk : I64 k) (w : World) (h : IsDk w wv tv fv d) (hb : ∀ x ∈ d.ws, wareB x) : Calls Tryz.prog 24 #[.agg #[wv, tv, fv], .int .i64 k] w fun e w' => e = .returned (.tuple #[wellV (atW d.ws k), .bool (atW d.ws k).isSome]) ∧ B w w' := by
  obtain ⟨ao, ac, bo, bc, co, cc, rfl, rfl, rfl⟩ := h.forms
  have hQ := ((B.refl w).alloc #[.slice ao d.ws.length ac, .slice bo d.ts.length bc, .slice co d.fs.length cc] 26).alloc #[.string ⟨#[]⟩, .int .i64 0, .int .i64 0] 39
  have hR := h.ws.keepB hQ
  obtain ⟨W, hW⟩ : ∃ W, (w.alloc (.cells #[.slice ao d.ws.length ac, .slice bo d.ts.length bc, .slice co d.fs.length cc] 26)).alloc (.cells #[.string ⟨#[]⟩, .int .i64 0, .int .i64 0] 39) = W := ⟨_, rfl⟩
  have e1 : (w.alloc (.cells #[.slice ao d.ws.length ac, .slice bo d.ts.length bc, .slice co d.fs.length cc] 26)).heap.size = w.heap.size + 1 := by simp
  have oD := ((B.refl _).alloc #[.string ⟨#[]⟩, .int .i64 0, .int .i64 0] 39).obj (obj_new w (.cells #[.slice ao d.ws.length ac, .slice bo d.ts.length bc, .slice co d.fs.length cc] 26))
  have oE := obj_new (w.alloc (.cells #[.slice ao d.ws.length ac, .slice bo d.ts.length bc, .slice co d.fs.length cc] 26)) (.cells #[.string ⟨#[]⟩, .int .i64 0, .int .i64 0] 39)
  rw [e1] at oE
  rw [hW] at hR hQ oD oE
  clear h e1
  obtain ⟨RR, hRR⟩ : ∃ RR, atW d.ws k = RR := ⟨_, rfl⟩
  rw [hRR]
  go_enter Tryz.func24, Tryz.ntmps24
  go_wp2_with fail
  try rw [hW]
  clear hW
  obtain ⟨H, hH⟩ : ∃ H, w.heap.size = H := ⟨_, rfl⟩
  obtain ⟨E, hE⟩ : ∃ E, w.heap.size + 1 = E := ⟨_, rfl⟩
  have hEg : w.heap.size ≤ E := by omega
  have hne : ¬ E = H := by omega
  have hne2 : ¬ H = E := by omega
  rw [hE] at oE ⊢
  rw [hH] at oD ⊢
  clear hE hH
  go_loopw [1, 6] (fun kv iv wr => ∃ (i : Nat) (K : Int), i ≤ d.ws.length ∧ iv = .int .i64 i ∧ kv = .int .i64 K ∧ I64 K ∧ RR = atW (d.ws.drop i) K ∧ B W wr) (fun _ iv _ => d.ws.length + 1 - (intOf iv).toNat)
  case atStart => exact ⟨0, k, Nat.zero_le _, rfl, rfl, hk, hRR.symm, B.refl _⟩
  case round =>
    obtain ⟨i, K, hi, rfl, rfl, hK, hRi, hBi⟩ := hrel
    obtain ⟨wo, rfl⟩ : ∃ wo : World, wo = wr := ⟨_, rfl⟩
    clear hRR hk
    have oD1 := hBi.obj oD
    have oE1 := hBi.obj oE
    have k0 : wo.cell? ⟨H, 0, none⟩ = some (.slice ao d.ws.length ac) := obj_cell oD1 0
    have B1 := hQ.trans hBi
    by_cases hgo : i < d.ws.length ∧ 0 ≤ K
    · obtain ⟨hl, hK0⟩ := hgo
      have hlB : decide ((i : Int) < (d.ws.length : Int)) = true := decide_eq_true (by omega)
      have hlI : (i : Int) < (d.ws.length : Int) := by omega
      have hKB : decide ((0 : Int) ≤ K) = true := decide_eq_true hK0
      have hi0 : (0 : Int) ≤ (i : Int) := by omega
      have wk1 : IntKind.i64.wrap ((i : Int) + 1) = (i : Int) + 1 := by rw [IntKind.wrap_i64]; have := hR.len; omega
      obtain ⟨a, cap, e1, _, _, hr⟩ := (hR.keepB hBi).at_ hl
      obtain ⟨rfl, _, rfl⟩ : ao = some a ∧ True ∧ ac = cap := by simpa using e1
      have hbi := hb _ (List.getElem_mem hl)
      rw [at_cons hl, if_neg (by omega)] at hRi
      obtain ⟨F, hF⟩ : ∃ F, d.ws[i] = F := ⟨_, rfl⟩
      rw [hF] at hr hRi hbi
      obtain ⟨b1, b2, b3, b4⟩ := hbi
      obtain ⟨g1, g2, g3, g4, sv, g5, g6⟩ := hr
      obtain ⟨so, sc, rfl⟩ := secs_form g6
      obtain ⟨sn, hsn⟩ : ∃ sn, F.l.length = sn := ⟨_, rfl⟩
      rw [hsn] at g5 g6
      clear hsn
      obtain ⟨N, X, Y, Z, SL⟩ := F
      simp only at g1 g2 g3 g4 g5 hRi b1 b2 b3 b4
      have hxy := mul_small (a := X) (b := Y) (by omega) b2 (by omega) b4
      obtain ⟨P, hP⟩ : ∃ P, X * Y = P := ⟨_, rfl⟩
      rw [hP] at hxy hRi
      have w1 : IntKind.i64.wrap (X * Y) = P := by rw [hP, IntKind.wrap_i64]; omega
      have q1 := (B.refl wo).alloc #[.string N, .int .i64 X, .int .i64 Y, .int .i64 Z, .slice so sn sc] 33
      have oW := obj_new wo (.cells #[.string N, .int .i64 X, .int .i64 Y, .int .i64 Z, .slice so sn sc] 33)
      obtain ⟨W1, hW1⟩ : ∃ W1, wo.alloc (.cells #[.string N, .int .i64 X, .int .i64 Y, .int .i64 Z, .slice so sn sc] 33) = W1 := ⟨_, rfl⟩
      rw [hW1] at oW q1
      have oE2 := q1.obj oE1
      have hElt := obj_lt oE1
      have p0 : W1.cell? ⟨wo.heap.size, 0, none⟩ = some (.string N) := obj_cell oW 0
      have p1 : W1.cell? ⟨wo.heap.size, 1, none⟩ = some (.int .i64 X) := obj_cell oW 1
      have p2 : W1.cell? ⟨wo.heap.size, 2, none⟩ = some (.int .i64 Y) := obj_cell oW 2
      have HL := Lib.hid hl
      clear hF e1 g6 hb hi hl hR oD1 oE1
      by_cases hlt : K < P
      · have hltB : decide (K < P) = true := decide_eq_true hlt
        rw [if_pos hlt] at hRi
        have y0 : ¬ Y = 0 := by omega
        have dv : IntKind.i64.wrap (K.tdiv Y) = K / Y := by
          rw [Int.tdiv_eq_ediv_of_nonneg hK0, IntKind.wrap_i64]
          have := Int.ediv_le_self Y hK0
          have := Int.ediv_nonneg hK0 (by omega : 0 ≤ Y)
          unfold I64 at hK
          omega
        have rv : IntKind.i64.wrap (K.tmod Y) = K % Y := by
          rw [Int.tmod_eq_emod_of_nonneg hK0, IntKind.wrap_i64]
          have := Int.emod_lt_of_pos K (by omega : 0 < Y)
          have := Int.emod_nonneg K (by omega : Y ≠ 0)
          omega
        have dv' : K.tdiv Y = K / Y := Int.tdiv_eq_ediv_of_nonneg hK0
        have rv' : K.tmod Y = K % Y := Int.tmod_eq_emod_of_nonneg hK0
        have r0 : W1.cell? ⟨E, 0, none⟩ = some (.string ⟨#[]⟩) := obj_cell oE2 0
        have r1 : W1.cell? ⟨E, 1, none⟩ = some (.int .i64 0) := obj_cell oE2 1
        have r2 : W1.cell? ⟨E, 2, none⟩ = some (.int .i64 0) := obj_cell oE2 2
        have f0 := obj_free oE2 0
        have f1 := obj_free oE2 1
        have f2 := obj_free oE2 2
        have hEw : ¬ E = wo.heap.size := by omega
        have hwE : ¬ wo.heap.size = E := by omega
        have oF := obj_three oE2 (.string N) (.int .i64 (K / Y)) (.int .i64 (K % Y))
        have hqF := b_three (B1.trans q1) hEg (.string N) (.int .i64 (K / Y)) (.int .i64 (K % Y))
        have HX := Lib.hid (And.intro hRi (And.intro oF hqF))
        clear hRi oF hqF hP hxy hlt oW oE2 q1 B1 hQ hBi oD oE
        rw [dv'] at dv
        rw [rv'] at rv
        generalize K / Y = QQ at *
        generalize K % Y = MM at *
        go_wp2_with fail
        try rw [hW1]
        generalize wo.heap.size = G at *
        have p0' : W1.drew.cell? ⟨G, 0, none⟩ = some (.string N) := p0
        have p2' : W1.drew.cell? ⟨G, 2, none⟩ = some (.int .i64 Y) := p2
        have r0' : W1.drew.cell? ⟨E, 0, none⟩ = some (.string ⟨#[]⟩) := r0
        have r1' : W1.drew.cell? ⟨E, 1, none⟩ = some (.int .i64 0) := r1
        have r2' : W1.drew.cell? ⟨E, 2, none⟩ = some (.int .i64 0) := r2
        have f0' : W1.drew.frozen? ⟨E, 0, none⟩ = false := f0
        have f1' : W1.drew.frozen? ⟨E, 1, none⟩ = false := f1
        have f2' : W1.drew.frozen? ⟨E, 2, none⟩ = false := f2
        go_region
        all_goals
          go_wp2
          obtain ⟨hRi, oF, hqF⟩ := HX.out
          have z0 := obj_cell oF 0
          have z1 := obj_cell oF 1
          have z2 := obj_cell oF 2
          exact bodyPost_ret (v := .tuple #[.agg #[.string N, .int .i64 QQ, .int .i64 MM], .bool true]) (by simp [results, Tryz.results24, go_sem, z0, z1, z2]) rfl ⟨by rw [hRi]; rfl, hqF.drew⟩
      · have hltB : decide (K < P) = false := decide_eq_false hlt
        rw [if_neg hlt] at hRi
        have w2 : IntKind.i64.wrap (K - P) = K - P := by rw [IntKind.wrap_i64]; unfold I64 at hK; omega
        have hK2 : I64 (K - P) := by unfold I64 at hK ⊢; omega
        have HX := Lib.hid (And.intro hRi (And.intro hK2 (hBi.trans q1)))
        clear hRi hK2 hP hxy hlt oW oE2 q1 B1 hQ hBi oD oE hK
        go_wp2
        go_roundw
        case rel =>
          obtain ⟨h1, h2, h3⟩ := HX.out
          have hl := HL.out
          exact ⟨i + 1, K - P, by omega, by go_num, rfl, h2, h1, h3⟩
        case measure => have := HL.out; simp [intOf]; omega
    · have hnone : RR = none := by
        rw [hRi]
        by_cases hl : i < d.ws.length
        · exact at_neg (by omega) _
        · rw [List.drop_eq_nil_of_le (by omega)]; rfl
      have r0 : wo.cell? ⟨E, 0, none⟩ = some (.string ⟨#[]⟩) := obj_cell oE1 0
      have r1 : wo.cell? ⟨E, 1, none⟩ = some (.int .i64 0) := obj_cell oE1 1
      have r2 : wo.cell? ⟨E, 2, none⟩ = some (.int .i64 0) := obj_cell oE1 2
      have f0 := obj_free oE1 0
      have f1 := obj_free oE1 1
      have f2 := obj_free oE1 2
      have oF := obj_three oE1 (.string ⟨#[]⟩) (.int .i64 0) (.int .i64 0)
      have hqF := b_three B1 hEg (.string ⟨#[]⟩) (.int .i64 0) (.int .i64 0)
      have HX := Lib.hid (And.intro hnone (And.intro oF hqF))
      have hor : (decide ((i : Int) < (d.ws.length : Int)) = false ∧ decide (i < d.ws.length) = false) ∨ (decide ((i : Int) < (d.ws.length : Int)) = true ∧ decide (i < d.ws.length) = true ∧ decide ((0 : Int) ≤ K) = false) := by
        by_cases hl : i < d.ws.length
        · exact .inr ⟨decide_eq_true (by omega), decide_eq_true hl, decide_eq_false (by omega)⟩
        · exact .inl ⟨decide_eq_false (by omega), decide_eq_false hl⟩
      clear hRi hnone oF hqF hgo hR hb hK hi oD oE oD1 oE1 B1 hQ hBi
      rcases hor with ⟨hA, hB⟩ | ⟨hA, hA', hB⟩
      all_goals
        go_wp2
        obtain ⟨hnone, oF, hqF⟩ := HX.out
        have z0 := obj_cell oF 0
        have z1 := obj_cell oF 1
        have z2 := obj_cell oF 2
        exact bodyPost_ret (v := .tuple #[.agg #[.string ⟨#[]⟩, .int .i64 0, .int .i64 0], .bool false]) (by simp [results, Tryz.results24, go_sem, z0, z1, z2]) rfl ⟨by rw [hnone]; rfl, hqF⟩
end Go.Proofs.YtjdkhobkdlldnaaGreatDoor

namespace Go.Proofs.YtjdkhobkdlldnaaGreatDoor
open Go.RowKit
set_option linter.unusedVariables false
/-- The number of a well, as the code looks for it. -/
def indexC : List Wr → Int → ByteArray → Int → Int → Option Int
  | [], _, _, _, _ => none
  | w :: ws, k, n, r, c => if hasB w.n w.x w.y n r c then some (k + (r * w.y + c)) else indexC ws (k + w.x * w.y) n r c
theorem indexC_cons {ws : List Wr} {i : Nat} (hi : i < ws.length) (K : Int) (n : ByteArray) (r c : Int) : indexC (ws.drop i) K n r c = (if hasB (ws[i]).n (ws[i]).x (ws[i]).y n r c then some (K + (r * (ws[i]).y + c)) else indexC (ws.drop (i + 1)) (K + (ws[i]).x * (ws[i]).y) n r c) := by
  rw [List.drop_eq_getElem_cons hi]
  rfl
theorem hasB_in {N : ByteArray} {X Y : Int} {n : ByteArray} {r c : Int} (h : hasB N X Y n r c = true) : 0 ≤ r ∧ r < X ∧ 0 ≤ c ∧ c < Y := by
  unfold hasB at h
  simp only [Bool.and_eq_true, decide_eq_true_eq] at h
  omega
set_option maxRecDepth 100000 in
set_option maxHeartbeats 2000000 in
theorem windex_any (wv tv fv : Value) (d : Dk) (n : ByteArray) (r c : Int) (hr : I64 r) (hc : I64 c) (w : World) (h : IsDk w wv tv fv d) (hb : ∀ x ∈ d.ws, wareB x) (h100 : d.ws.length ≤ 100) : Calls Tryz.prog 109 #[.agg #[wv, tv, fv], .agg #[.string n, .int .i64 r, .int .i64 c]] w fun e w' => e = .returned (.tuple #[.int .i64 ((indexC d.ws 0 n r c).getD 0), .bool (indexC d.ws 0 n r c).isSome]) ∧ Q w w' := by
  obtain ⟨ao, ac, bo, bc, co, cc, rfl, rfl, rfl⟩ := h.forms
  have hQ := ((Q.refl w).alloc #[.slice ao d.ws.length ac, .slice bo d.ts.length bc, .slice co d.fs.length cc] 26).alloc #[.string n, .int .i64 r, .int .i64 c] 39
  have hR := h.ws.keepB hQ.b
  have e1 : (w.alloc (.cells #[.slice ao d.ws.length ac, .slice bo d.ts.length bc, .slice co d.fs.length cc] 26)).heap.size = w.heap.size + 1 := by simp
  have oD := ((B.refl _).alloc #[.string n, .int .i64 r, .int .i64 c] 39).obj (obj_new w (.cells #[.slice ao d.ws.length ac, .slice bo d.ts.length bc, .slice co d.fs.length cc] 26))
  have oE := obj_new (w.alloc (.cells #[.slice ao d.ws.length ac, .slice bo d.ts.length bc, .slice co d.fs.length cc] 26)) (.cells #[.string n, .int .i64 r, .int .i64 c] 39)
  rw [e1] at oE
  obtain ⟨W, hW⟩ : ∃ W, (w.alloc (.cells #[.slice ao d.ws.length ac, .slice bo d.ts.length bc, .slice co d.fs.length cc] 26)).alloc (.cells #[.string n, .int .i64 r, .int .i64 c] 39) = W := ⟨_, rfl⟩
  rw [hW] at hR hQ oD oE
  have k0 : W.cell? ⟨w.heap.size, 0, none⟩ = some (.slice ao d.ws.length ac) := obj_cell oD 0
  replace hQ := Lib.hid hQ
  clear h e1
  obtain ⟨R, hRR⟩ : ∃ R, indexC d.ws 0 n r c = R := ⟨_, rfl⟩
  rw [hRR]
  go_enter Tryz.func109, Tryz.ntmps109
  go_wp2_with fail
  try rw [hW]
  go_wp2_with fail
  clear hW k0 oD
  obtain ⟨E, hE⟩ : ∃ E, w.heap.size + 1 = E := ⟨_, rfl⟩
  rw [hE] at oE ⊢
  clear hE
  generalize w.heap.size = H at *
  go_loopw [6, 12] (fun nv iv wr => ∃ (i : Nat) (K : Int), i ≤ d.ws.length ∧ iv = .int .i64 i ∧ nv = .int .i64 K ∧ 0 ≤ K ∧ K ≤ 96 * (i : Int) ∧ R = indexC (d.ws.drop i) K n r c ∧ Q W wr) (fun _ iv _ => d.ws.length + 1 - (intOf iv).toNat)
  case atStart => exact ⟨0, 0, Nat.zero_le _, rfl, rfl, by omega, by omega, hRR.symm, Q.refl _⟩
  case round =>
    obtain ⟨i, K, hi, rfl, rfl, hK0, hK1, hRi, hQi⟩ := hrel
    obtain ⟨wo, rfl⟩ : ∃ wo : World, wo = wr := ⟨_, rfl⟩
    clear hRR
    have oE1 := hQi.b.obj oE
    by_cases hl : i < d.ws.length
    · have hlB : decide ((i : Int) < (d.ws.length : Int)) = true := decide_eq_true (by omega)
      have hlI : (i : Int) < (d.ws.length : Int) := by omega
      have hi0 : (0 : Int) ≤ (i : Int) := by omega
      have wk1 : IntKind.i64.wrap ((i : Int) + 1) = (i : Int) + 1 := by rw [IntKind.wrap_i64]; omega
      obtain ⟨a, cap, e1, _, _, hrec⟩ := (hR.keepB hQi.b).at_ hl
      obtain ⟨rfl, _, rfl⟩ : ao = some a ∧ True ∧ ac = cap := by simpa using e1
      have hbi := hb _ (List.getElem_mem hl)
      rw [indexC_cons hl] at hRi
      obtain ⟨F, hF⟩ : ∃ F, d.ws[i] = F := ⟨_, rfl⟩
      rw [hF] at hrec hRi hbi
      obtain ⟨g1, g2, g3, g4, sv, g5, g6⟩ := hrec
      obtain ⟨so, sc, rfl⟩ := secs_form g6
      obtain ⟨sn, hsn⟩ : ∃ sn, F.l.length = sn := ⟨_, rfl⟩
      rw [hsn] at g5 g6
      clear hsn
      obtain ⟨N, X, Y, Z, SL⟩ := F
      have cs := fun w => wsize_any N X Y Z _ so sn sc rfl hbi w
      obtain ⟨b1, b2, b3, b4⟩ := hbi
      simp only at g1 g2 g3 g4 g5 hRi b1 b2 b3 b4
      have ch := fun w => whas_any N X Y Z _ so sn sc rfl n r c (by unfold I64; omega) (by unfold I64; omega) hr hc w
      have q1 := (Q.refl wo).alloc #[.string N, .int .i64 X, .int .i64 Y, .int .i64 Z, .slice so sn sc] 33
      have oE2 := q1.b.obj oE1
      have oW := obj_new wo (.cells #[.string N, .int .i64 X, .int .i64 Y, .int .i64 Z, .slice so sn sc] 33)
      have HL := Lib.hid hl
      have hQ1 := hQi.trans q1
      obtain ⟨W1, hW1⟩ : ∃ W1, wo.alloc (.cells #[.string N, .int .i64 X, .int .i64 Y, .int .i64 Z, .slice so sn sc] 33) = W1 := ⟨_, rfl⟩
      rw [hW1] at hQ1 oW oE2
      have p0 : W1.cell? ⟨wo.heap.size, 0, none⟩ = some (.string N) := obj_cell oW 0
      have p1 : W1.cell? ⟨wo.heap.size, 1, none⟩ = some (.int .i64 X) := obj_cell oW 1
      have p2 : W1.cell? ⟨wo.heap.size, 2, none⟩ = some (.int .i64 Y) := obj_cell oW 2
      have p3 : W1.cell? ⟨wo.heap.size, 3, none⟩ = some (.int .i64 Z) := obj_cell oW 3
      have p4 : W1.cell? ⟨wo.heap.size, 4, none⟩ = some (.slice so sn sc) := obj_cell oW 4
      have r0 : W1.cell? ⟨E, 0, none⟩ = some (.string n) := obj_cell oE2 0
      have r1 : W1.cell? ⟨E, 1, none⟩ = some (.int .i64 r) := obj_cell oE2 1
      have r2 : W1.cell? ⟨E, 2, none⟩ = some (.int .i64 c) := obj_cell oE2 2
      have hEw : ¬ E = wo.heap.size := by have := obj_lt oE1; omega
      have hwE : ¬ wo.heap.size = E := by omega
      clear hF e1 g6 q1 hb hl hR oE1 oE hQi
      cases hB : hasB N X Y n r c
      · rw [hB] at ch hRi
        rw [if_neg (by decide)] at hRi
        have hxy := mul_small (a := X) (b := Y) (by omega) b2 (by omega) b4
        generalize X * Y = P at *
        have w2 : IntKind.i64.wrap (K + P) = K + P := by rw [IntKind.wrap_i64]; omega
        have HX := Lib.hid (And.intro hRi (And.intro (show 0 ≤ K + P ∧ K + P ≤ 96 * ((i : Int) + 1) by omega) hQ1))
        clear hRi hxy hB hQ1 b1 b2 b3 b4
        go_wp2_with fail
        try rw [hW1]
        go_wp2_with fail
        refine (ch _).mono ?_
        rintro _ w2 ⟨rfl, q2⟩
        replace p0 := q2.keep p0
        replace p1 := q2.keep p1
        replace p2 := q2.keep p2
        replace p3 := q2.keep p3
        replace p4 := q2.keep p4
        go_wp2_with fail
        refine (cs _).mono ?_
        rintro _ w3 ⟨rfl, q3⟩
        go_wp2
        go_roundw
        case rel =>
          obtain ⟨h1, ⟨h2, h3⟩, h5⟩ := HX.out
          have hl := HL.out
          exact ⟨i + 1, K + P, by omega, by go_num, rfl, h2, by omega, h1, (h5.trans q2).trans q3⟩
        case measure => have := HL.out; simp [intOf]; omega
      · rw [hB] at ch hRi
        rw [if_pos rfl] at hRi
        obtain ⟨i1, i2, i3, i4⟩ := hasB_in hB
        have hxy := mul_small (a := r) (b := Y) i1 (by omega) (by omega) b4
        obtain ⟨P, hP⟩ : ∃ P, r * Y = P := ⟨_, rfl⟩
        rw [hP] at hxy hRi
        have w1 : IntKind.i64.wrap (r * Y) = P := by rw [hP, IntKind.wrap_i64]; omega
        obtain ⟨K1, hK1'⟩ : ∃ K1, K + P = K1 := ⟨_, rfl⟩
        obtain ⟨K2, hK2⟩ : ∃ K2, K1 + c = K2 := ⟨_, rfl⟩
        have w2 : IntKind.i64.wrap (K + P) = K1 := by rw [hK1', IntKind.wrap_i64]; omega
        have w3 : IntKind.i64.wrap (K1 + c) = K2 := by rw [hK2, IntKind.wrap_i64]; omega
        have e2 : K + (P + c) = K2 := by omega
        rw [e2] at hRi
        subst hRi
        have HX := Lib.hid hQ1
        clear hP hxy hK1' hK2 e2 hK0 hK1 b1 b2 b3 b4 i1 i2 i3 i4 hB hQ1
        go_wp2_with fail
        try rw [hW1]
        go_wp2_with fail
        refine (ch _).mono ?_
        rintro _ w2 ⟨rfl, q2⟩
        replace p2 := q2.keep p2
        replace r1 := q2.keep r1
        replace r2 := q2.keep r2
        go_wp2
        go_ret2
        exact ⟨rfl, (hQ.out.trans HX.out).trans q2⟩
    · have hlB : decide ((i : Int) < (d.ws.length : Int)) = false := decide_eq_false (by omega)
      have hlN : decide (i < d.ws.length) = false := decide_eq_false hl
      rw [List.drop_eq_nil_of_le (by omega)] at hRi
      have hRn : R = none := hRi
      subst hRn
      have HQ := Lib.hid (hQ.out.trans hQi)
      clear hRi hR hQi hi hK0 hK1 hl
      go_wp2
      go_ret2
      exact ⟨rfl, HQ.out⟩
end Go.Proofs.YtjdkhobkdlldnaaGreatDoor
