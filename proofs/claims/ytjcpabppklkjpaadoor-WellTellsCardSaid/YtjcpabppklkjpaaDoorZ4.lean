/-
  Contract of the code's kind of a byte; Contract of the code's Number; Contract of the document's Number; Contracts: the code's Name, the document's Number; The code's wells: within, written, size, has.
-/
import Derived.Lib.ConvBytes
import Derived.Test.YtjcpabppklkjpaaDoorChecked
import Derived.Lib.Hide
import Derived.KernelRfl
import Derived.Test.YtjcpabppklkjpaaDoorZ1
import Derived.Test.YtjcpabppklkjpaaDoorZ2
import Derived.Test.YtjcpabppklkjpaaDoorZ3
namespace Go.Proofs.YtjcpabppklkjpaaDoor
open Go.RowKit
theorem kind_any (n : Nat) (w : World) : Calls Tryd.prog 33 #[.int .u8 (n : Int)] w fun e w' => e = .returned (.int .i64 ((kindN n : Nat) : Int)) ∧ w = w' := by
  have cs : (n < 9) ∨ (n = 9) ∨ (n = 10) ∨ (11 ≤ n ∧ n ≤ 31) ∨ (n = 32) ∨ (33 ≤ n ∧ n ≤ 34) ∨ (n = 35) ∨ (36 ≤ n ∧ n ≤ 45) ∨ (n = 46) ∨ (n = 47) ∨ (48 ≤ n ∧ n ≤ 57) ∨ (58 ≤ n ∧ n ≤ 64) ∨ (65 ≤ n ∧ n ≤ 90) ∨ (91 ≤ n ∧ n ≤ 96) ∨ (97 ≤ n ∧ n ≤ 122) ∨ (122 < n) := by omega
  rcases cs with c | c | c | c | c | c | c | c | c | c | c | c | c | c | c | c
  · have hk : kindN n = 0 := by unfold kindN lowN capN digN; simp only [Bool.and_eq_true, decide_eq_true_eq]; repeat (first | rw [if_pos (by omega)] | rw [if_neg (by omega)])
    rw [hk]
    have g97 : decide ((97 : Int) ≤ (n : Int)) = false := decide_eq_false (by omega)
    have g65 : decide ((65 : Int) ≤ (n : Int)) = false := decide_eq_false (by omega)
    have g48 : decide ((48 : Int) ≤ (n : Int)) = false := decide_eq_false (by omega)
    have l122 : decide ((n : Int) ≤ 122) = true := decide_eq_true (by omega)
    have l90 : decide ((n : Int) ≤ 90) = true := decide_eq_true (by omega)
    have l57 : decide ((n : Int) ≤ 57) = true := decide_eq_true (by omega)
    have e46 : ((n : Int) == 46) = false := by simp; omega
    have e32 : ((n : Int) == 32) = false := by simp; omega
    have e9 : ((n : Int) == 9) = false := by simp; omega
    have e10 : ((n : Int) == 10) = false := by simp; omega
    have e35 : ((n : Int) == 35) = false := by simp; omega
    clear c hk
    go_enter Tryd.func33, Tryd.ntmps33
    go_wp2
    go_ret
    exact ⟨rfl, rfl⟩
  · have hk : kindN n = 5 := by unfold kindN lowN capN digN; simp only [Bool.and_eq_true, decide_eq_true_eq]; repeat (first | rw [if_pos (by omega)] | rw [if_neg (by omega)])
    rw [hk]
    have g97 : decide ((97 : Int) ≤ (n : Int)) = false := decide_eq_false (by omega)
    have g65 : decide ((65 : Int) ≤ (n : Int)) = false := decide_eq_false (by omega)
    have g48 : decide ((48 : Int) ≤ (n : Int)) = false := decide_eq_false (by omega)
    have l122 : decide ((n : Int) ≤ 122) = true := decide_eq_true (by omega)
    have l90 : decide ((n : Int) ≤ 90) = true := decide_eq_true (by omega)
    have l57 : decide ((n : Int) ≤ 57) = true := decide_eq_true (by omega)
    have e46 : ((n : Int) == 46) = false := by simp; omega
    have e32 : ((n : Int) == 32) = false := by simp; omega
    have e9 : ((n : Int) == 9) = true := by simp; omega
    have e10 : ((n : Int) == 10) = false := by simp; omega
    have e35 : ((n : Int) == 35) = false := by simp; omega
    clear c hk
    go_enter Tryd.func33, Tryd.ntmps33
    go_wp2
    go_ret
    exact ⟨rfl, rfl⟩
  · have hk : kindN n = 6 := by unfold kindN lowN capN digN; simp only [Bool.and_eq_true, decide_eq_true_eq]; repeat (first | rw [if_pos (by omega)] | rw [if_neg (by omega)])
    rw [hk]
    have g97 : decide ((97 : Int) ≤ (n : Int)) = false := decide_eq_false (by omega)
    have g65 : decide ((65 : Int) ≤ (n : Int)) = false := decide_eq_false (by omega)
    have g48 : decide ((48 : Int) ≤ (n : Int)) = false := decide_eq_false (by omega)
    have l122 : decide ((n : Int) ≤ 122) = true := decide_eq_true (by omega)
    have l90 : decide ((n : Int) ≤ 90) = true := decide_eq_true (by omega)
    have l57 : decide ((n : Int) ≤ 57) = true := decide_eq_true (by omega)
    have e46 : ((n : Int) == 46) = false := by simp; omega
    have e32 : ((n : Int) == 32) = false := by simp; omega
    have e9 : ((n : Int) == 9) = false := by simp; omega
    have e10 : ((n : Int) == 10) = true := by simp; omega
    have e35 : ((n : Int) == 35) = false := by simp; omega
    clear c hk
    go_enter Tryd.func33, Tryd.ntmps33
    go_wp2
    go_ret
    exact ⟨rfl, rfl⟩
  · have hk : kindN n = 0 := by unfold kindN lowN capN digN; simp only [Bool.and_eq_true, decide_eq_true_eq]; repeat (first | rw [if_pos (by omega)] | rw [if_neg (by omega)])
    rw [hk]
    have g97 : decide ((97 : Int) ≤ (n : Int)) = false := decide_eq_false (by omega)
    have g65 : decide ((65 : Int) ≤ (n : Int)) = false := decide_eq_false (by omega)
    have g48 : decide ((48 : Int) ≤ (n : Int)) = false := decide_eq_false (by omega)
    have l122 : decide ((n : Int) ≤ 122) = true := decide_eq_true (by omega)
    have l90 : decide ((n : Int) ≤ 90) = true := decide_eq_true (by omega)
    have l57 : decide ((n : Int) ≤ 57) = true := decide_eq_true (by omega)
    have e46 : ((n : Int) == 46) = false := by simp; omega
    have e32 : ((n : Int) == 32) = false := by simp; omega
    have e9 : ((n : Int) == 9) = false := by simp; omega
    have e10 : ((n : Int) == 10) = false := by simp; omega
    have e35 : ((n : Int) == 35) = false := by simp; omega
    clear c hk
    go_enter Tryd.func33, Tryd.ntmps33
    go_wp2
    go_ret
    exact ⟨rfl, rfl⟩
  · have hk : kindN n = 5 := by unfold kindN lowN capN digN; simp only [Bool.and_eq_true, decide_eq_true_eq]; repeat (first | rw [if_pos (by omega)] | rw [if_neg (by omega)])
    rw [hk]
    have g97 : decide ((97 : Int) ≤ (n : Int)) = false := decide_eq_false (by omega)
    have g65 : decide ((65 : Int) ≤ (n : Int)) = false := decide_eq_false (by omega)
    have g48 : decide ((48 : Int) ≤ (n : Int)) = false := decide_eq_false (by omega)
    have l122 : decide ((n : Int) ≤ 122) = true := decide_eq_true (by omega)
    have l90 : decide ((n : Int) ≤ 90) = true := decide_eq_true (by omega)
    have l57 : decide ((n : Int) ≤ 57) = true := decide_eq_true (by omega)
    have e46 : ((n : Int) == 46) = false := by simp; omega
    have e32 : ((n : Int) == 32) = true := by simp; omega
    have e9 : ((n : Int) == 9) = false := by simp; omega
    have e10 : ((n : Int) == 10) = false := by simp; omega
    have e35 : ((n : Int) == 35) = false := by simp; omega
    clear c hk
    go_enter Tryd.func33, Tryd.ntmps33
    go_wp2
    go_ret
    exact ⟨rfl, rfl⟩
  · have hk : kindN n = 0 := by unfold kindN lowN capN digN; simp only [Bool.and_eq_true, decide_eq_true_eq]; repeat (first | rw [if_pos (by omega)] | rw [if_neg (by omega)])
    rw [hk]
    have g97 : decide ((97 : Int) ≤ (n : Int)) = false := decide_eq_false (by omega)
    have g65 : decide ((65 : Int) ≤ (n : Int)) = false := decide_eq_false (by omega)
    have g48 : decide ((48 : Int) ≤ (n : Int)) = false := decide_eq_false (by omega)
    have l122 : decide ((n : Int) ≤ 122) = true := decide_eq_true (by omega)
    have l90 : decide ((n : Int) ≤ 90) = true := decide_eq_true (by omega)
    have l57 : decide ((n : Int) ≤ 57) = true := decide_eq_true (by omega)
    have e46 : ((n : Int) == 46) = false := by simp; omega
    have e32 : ((n : Int) == 32) = false := by simp; omega
    have e9 : ((n : Int) == 9) = false := by simp; omega
    have e10 : ((n : Int) == 10) = false := by simp; omega
    have e35 : ((n : Int) == 35) = false := by simp; omega
    clear c hk
    go_enter Tryd.func33, Tryd.ntmps33
    go_wp2
    go_ret
    exact ⟨rfl, rfl⟩
  · have hk : kindN n = 7 := by unfold kindN lowN capN digN; simp only [Bool.and_eq_true, decide_eq_true_eq]; repeat (first | rw [if_pos (by omega)] | rw [if_neg (by omega)])
    rw [hk]
    have g97 : decide ((97 : Int) ≤ (n : Int)) = false := decide_eq_false (by omega)
    have g65 : decide ((65 : Int) ≤ (n : Int)) = false := decide_eq_false (by omega)
    have g48 : decide ((48 : Int) ≤ (n : Int)) = false := decide_eq_false (by omega)
    have l122 : decide ((n : Int) ≤ 122) = true := decide_eq_true (by omega)
    have l90 : decide ((n : Int) ≤ 90) = true := decide_eq_true (by omega)
    have l57 : decide ((n : Int) ≤ 57) = true := decide_eq_true (by omega)
    have e46 : ((n : Int) == 46) = false := by simp; omega
    have e32 : ((n : Int) == 32) = false := by simp; omega
    have e9 : ((n : Int) == 9) = false := by simp; omega
    have e10 : ((n : Int) == 10) = false := by simp; omega
    have e35 : ((n : Int) == 35) = true := by simp; omega
    clear c hk
    go_enter Tryd.func33, Tryd.ntmps33
    go_wp2
    go_ret
    exact ⟨rfl, rfl⟩
  · have hk : kindN n = 0 := by unfold kindN lowN capN digN; simp only [Bool.and_eq_true, decide_eq_true_eq]; repeat (first | rw [if_pos (by omega)] | rw [if_neg (by omega)])
    rw [hk]
    have g97 : decide ((97 : Int) ≤ (n : Int)) = false := decide_eq_false (by omega)
    have g65 : decide ((65 : Int) ≤ (n : Int)) = false := decide_eq_false (by omega)
    have g48 : decide ((48 : Int) ≤ (n : Int)) = false := decide_eq_false (by omega)
    have l122 : decide ((n : Int) ≤ 122) = true := decide_eq_true (by omega)
    have l90 : decide ((n : Int) ≤ 90) = true := decide_eq_true (by omega)
    have l57 : decide ((n : Int) ≤ 57) = true := decide_eq_true (by omega)
    have e46 : ((n : Int) == 46) = false := by simp; omega
    have e32 : ((n : Int) == 32) = false := by simp; omega
    have e9 : ((n : Int) == 9) = false := by simp; omega
    have e10 : ((n : Int) == 10) = false := by simp; omega
    have e35 : ((n : Int) == 35) = false := by simp; omega
    clear c hk
    go_enter Tryd.func33, Tryd.ntmps33
    go_wp2
    go_ret
    exact ⟨rfl, rfl⟩
  · have hk : kindN n = 4 := by unfold kindN lowN capN digN; simp only [Bool.and_eq_true, decide_eq_true_eq]; repeat (first | rw [if_pos (by omega)] | rw [if_neg (by omega)])
    rw [hk]
    have g97 : decide ((97 : Int) ≤ (n : Int)) = false := decide_eq_false (by omega)
    have g65 : decide ((65 : Int) ≤ (n : Int)) = false := decide_eq_false (by omega)
    have g48 : decide ((48 : Int) ≤ (n : Int)) = false := decide_eq_false (by omega)
    have l122 : decide ((n : Int) ≤ 122) = true := decide_eq_true (by omega)
    have l90 : decide ((n : Int) ≤ 90) = true := decide_eq_true (by omega)
    have l57 : decide ((n : Int) ≤ 57) = true := decide_eq_true (by omega)
    have e46 : ((n : Int) == 46) = true := by simp; omega
    have e32 : ((n : Int) == 32) = false := by simp; omega
    have e9 : ((n : Int) == 9) = false := by simp; omega
    have e10 : ((n : Int) == 10) = false := by simp; omega
    have e35 : ((n : Int) == 35) = false := by simp; omega
    clear c hk
    go_enter Tryd.func33, Tryd.ntmps33
    go_wp2
    go_ret
    exact ⟨rfl, rfl⟩
  · have hk : kindN n = 0 := by unfold kindN lowN capN digN; simp only [Bool.and_eq_true, decide_eq_true_eq]; repeat (first | rw [if_pos (by omega)] | rw [if_neg (by omega)])
    rw [hk]
    have g97 : decide ((97 : Int) ≤ (n : Int)) = false := decide_eq_false (by omega)
    have g65 : decide ((65 : Int) ≤ (n : Int)) = false := decide_eq_false (by omega)
    have g48 : decide ((48 : Int) ≤ (n : Int)) = false := decide_eq_false (by omega)
    have l122 : decide ((n : Int) ≤ 122) = true := decide_eq_true (by omega)
    have l90 : decide ((n : Int) ≤ 90) = true := decide_eq_true (by omega)
    have l57 : decide ((n : Int) ≤ 57) = true := decide_eq_true (by omega)
    have e46 : ((n : Int) == 46) = false := by simp; omega
    have e32 : ((n : Int) == 32) = false := by simp; omega
    have e9 : ((n : Int) == 9) = false := by simp; omega
    have e10 : ((n : Int) == 10) = false := by simp; omega
    have e35 : ((n : Int) == 35) = false := by simp; omega
    clear c hk
    go_enter Tryd.func33, Tryd.ntmps33
    go_wp2
    go_ret
    exact ⟨rfl, rfl⟩
  · have hk : kindN n = 3 := by unfold kindN lowN capN digN; simp only [Bool.and_eq_true, decide_eq_true_eq]; repeat (first | rw [if_pos (by omega)] | rw [if_neg (by omega)])
    rw [hk]
    have g97 : decide ((97 : Int) ≤ (n : Int)) = false := decide_eq_false (by omega)
    have g65 : decide ((65 : Int) ≤ (n : Int)) = false := decide_eq_false (by omega)
    have g48 : decide ((48 : Int) ≤ (n : Int)) = true := decide_eq_true (by omega)
    have l122 : decide ((n : Int) ≤ 122) = true := decide_eq_true (by omega)
    have l90 : decide ((n : Int) ≤ 90) = true := decide_eq_true (by omega)
    have l57 : decide ((n : Int) ≤ 57) = true := decide_eq_true (by omega)
    have e46 : ((n : Int) == 46) = false := by simp; omega
    have e32 : ((n : Int) == 32) = false := by simp; omega
    have e9 : ((n : Int) == 9) = false := by simp; omega
    have e10 : ((n : Int) == 10) = false := by simp; omega
    have e35 : ((n : Int) == 35) = false := by simp; omega
    clear c hk
    go_enter Tryd.func33, Tryd.ntmps33
    go_wp2
    go_ret
    exact ⟨rfl, rfl⟩
  · have hk : kindN n = 0 := by unfold kindN lowN capN digN; simp only [Bool.and_eq_true, decide_eq_true_eq]; repeat (first | rw [if_pos (by omega)] | rw [if_neg (by omega)])
    rw [hk]
    have g97 : decide ((97 : Int) ≤ (n : Int)) = false := decide_eq_false (by omega)
    have g65 : decide ((65 : Int) ≤ (n : Int)) = false := decide_eq_false (by omega)
    have g48 : decide ((48 : Int) ≤ (n : Int)) = true := decide_eq_true (by omega)
    have l122 : decide ((n : Int) ≤ 122) = true := decide_eq_true (by omega)
    have l90 : decide ((n : Int) ≤ 90) = true := decide_eq_true (by omega)
    have l57 : decide ((n : Int) ≤ 57) = false := decide_eq_false (by omega)
    have e46 : ((n : Int) == 46) = false := by simp; omega
    have e32 : ((n : Int) == 32) = false := by simp; omega
    have e9 : ((n : Int) == 9) = false := by simp; omega
    have e10 : ((n : Int) == 10) = false := by simp; omega
    have e35 : ((n : Int) == 35) = false := by simp; omega
    clear c hk
    go_enter Tryd.func33, Tryd.ntmps33
    go_wp2
    go_ret
    exact ⟨rfl, rfl⟩
  · have hk : kindN n = 2 := by unfold kindN lowN capN digN; simp only [Bool.and_eq_true, decide_eq_true_eq]; repeat (first | rw [if_pos (by omega)] | rw [if_neg (by omega)])
    rw [hk]
    have g97 : decide ((97 : Int) ≤ (n : Int)) = false := decide_eq_false (by omega)
    have g65 : decide ((65 : Int) ≤ (n : Int)) = true := decide_eq_true (by omega)
    have g48 : decide ((48 : Int) ≤ (n : Int)) = true := decide_eq_true (by omega)
    have l122 : decide ((n : Int) ≤ 122) = true := decide_eq_true (by omega)
    have l90 : decide ((n : Int) ≤ 90) = true := decide_eq_true (by omega)
    have l57 : decide ((n : Int) ≤ 57) = false := decide_eq_false (by omega)
    have e46 : ((n : Int) == 46) = false := by simp; omega
    have e32 : ((n : Int) == 32) = false := by simp; omega
    have e9 : ((n : Int) == 9) = false := by simp; omega
    have e10 : ((n : Int) == 10) = false := by simp; omega
    have e35 : ((n : Int) == 35) = false := by simp; omega
    clear c hk
    go_enter Tryd.func33, Tryd.ntmps33
    go_wp2
    go_ret
    exact ⟨rfl, rfl⟩
  · have hk : kindN n = 0 := by unfold kindN lowN capN digN; simp only [Bool.and_eq_true, decide_eq_true_eq]; repeat (first | rw [if_pos (by omega)] | rw [if_neg (by omega)])
    rw [hk]
    have g97 : decide ((97 : Int) ≤ (n : Int)) = false := decide_eq_false (by omega)
    have g65 : decide ((65 : Int) ≤ (n : Int)) = true := decide_eq_true (by omega)
    have g48 : decide ((48 : Int) ≤ (n : Int)) = true := decide_eq_true (by omega)
    have l122 : decide ((n : Int) ≤ 122) = true := decide_eq_true (by omega)
    have l90 : decide ((n : Int) ≤ 90) = false := decide_eq_false (by omega)
    have l57 : decide ((n : Int) ≤ 57) = false := decide_eq_false (by omega)
    have e46 : ((n : Int) == 46) = false := by simp; omega
    have e32 : ((n : Int) == 32) = false := by simp; omega
    have e9 : ((n : Int) == 9) = false := by simp; omega
    have e10 : ((n : Int) == 10) = false := by simp; omega
    have e35 : ((n : Int) == 35) = false := by simp; omega
    clear c hk
    go_enter Tryd.func33, Tryd.ntmps33
    go_wp2
    go_ret
    exact ⟨rfl, rfl⟩
  · have hk : kindN n = 1 := by unfold kindN lowN capN digN; simp only [Bool.and_eq_true, decide_eq_true_eq]; repeat (first | rw [if_pos (by omega)] | rw [if_neg (by omega)])
    rw [hk]
    have g97 : decide ((97 : Int) ≤ (n : Int)) = true := decide_eq_true (by omega)
    have g65 : decide ((65 : Int) ≤ (n : Int)) = true := decide_eq_true (by omega)
    have g48 : decide ((48 : Int) ≤ (n : Int)) = true := decide_eq_true (by omega)
    have l122 : decide ((n : Int) ≤ 122) = true := decide_eq_true (by omega)
    have l90 : decide ((n : Int) ≤ 90) = false := decide_eq_false (by omega)
    have l57 : decide ((n : Int) ≤ 57) = false := decide_eq_false (by omega)
    have e46 : ((n : Int) == 46) = false := by simp; omega
    have e32 : ((n : Int) == 32) = false := by simp; omega
    have e9 : ((n : Int) == 9) = false := by simp; omega
    have e10 : ((n : Int) == 10) = false := by simp; omega
    have e35 : ((n : Int) == 35) = false := by simp; omega
    clear c hk
    go_enter Tryd.func33, Tryd.ntmps33
    go_wp2
    go_ret
    exact ⟨rfl, rfl⟩
  · have hk : kindN n = 0 := by unfold kindN lowN capN digN; simp only [Bool.and_eq_true, decide_eq_true_eq]; repeat (first | rw [if_pos (by omega)] | rw [if_neg (by omega)])
    rw [hk]
    have g97 : decide ((97 : Int) ≤ (n : Int)) = true := decide_eq_true (by omega)
    have g65 : decide ((65 : Int) ≤ (n : Int)) = true := decide_eq_true (by omega)
    have g48 : decide ((48 : Int) ≤ (n : Int)) = true := decide_eq_true (by omega)
    have l122 : decide ((n : Int) ≤ 122) = false := decide_eq_false (by omega)
    have l90 : decide ((n : Int) ≤ 90) = false := decide_eq_false (by omega)
    have l57 : decide ((n : Int) ≤ 57) = false := decide_eq_false (by omega)
    have e46 : ((n : Int) == 46) = false := by simp; omega
    have e32 : ((n : Int) == 32) = false := by simp; omega
    have e9 : ((n : Int) == 9) = false := by simp; omega
    have e10 : ((n : Int) == 10) = false := by simp; omega
    have e35 : ((n : Int) == 35) = false := by simp; omega
    clear c hk
    go_enter Tryd.func33, Tryd.ntmps33
    go_wp2
    go_ret
    exact ⟨rfl, rfl⟩
end Go.Proofs.YtjcpabppklkjpaaDoor

namespace Go.Proofs.YtjcpabppklkjpaaDoor
open Go.RowKit
theorem B.bytes {a w : World} (h : B a w) (e : TypeId) (s : ByteArray) : B a (Lib.bytesWorld w e s) :=
  ⟨⟨h.below.os, h.below.tape, h.below.output, by rw [Lib.bytesWorld_size]; have := h.below.size; omega, fun k hk => by
    rw [Lib.bytesWorld_at_old w e s k (Nat.lt_of_lt_of_le hk h.below.size)]
    exact h.below.block k hk⟩⟩
/-- What Number tells. -/
def NumRes (s : ByteArray) (w : World) (e : Ending) (w' : World) : Prop := e = .returned (.tuple #[.int .i64 ((numV s : Nat) : Int), .bool (numOk s)]) ∧ B w w'
theorem numRes_no {s : ByteArray} {w w' : World} (h : numOk s = false ∧ numV s = 0) (q : B w w') : NumRes s w (.returned (.tuple #[.int .i64 0, .bool false])) w' := ⟨by rw [h.1, h.2]; rfl, q⟩
theorem kind_dig {n : Nat} : digN n = true ↔ kindN n = 3 := by
  constructor
  · intro h
    have := digN_iff.1 h
    unfold kindN lowN capN
    simp only [Bool.and_eq_true, decide_eq_true_eq]
    rw [if_neg (by omega), if_neg (by omega), if_pos h]
  · intro h
    unfold kindN at h
    split at h; · omega
    split at h; · omega
    split at h
    · assumption
    repeat' (split at h)
    all_goals omega
theorem pick_dig {m d : Nat} (h : m = 48 + d) (hd : d ≤ 9) : IntKind.u8.wrap ((m : Int) - 48) = (d : Int) := by
  simp [IntKind.wrap, IntKind.signed, IntKind.bits]; omega
set_option maxHeartbeats 1000000 in
theorem number_any (s : ByteArray) (w : World) : Calls Tryd.prog 22 #[.string s] w (NumRes s w) := by
  have hE := toList_empty s
  have hZ := toList_zero s
  by_cases h1 : s.size < 1
  · rw [decide_eq_true h1] at hE
    have HR := Lib.hid (numRes_no (w := w) (w' := w) (num_no (s := s) (fun h => by omega)) (B.refl w))
    clear h1 hZ
    go_enter Tryd.func22, Tryd.ntmps22
    go_wp2
    go_ret2
    exact HR.out
  rw [decide_eq_false h1] at hE
  have hg0 : ∀ h : 0 < s.size, (s[0]'h).toNat = byteAt s 0 := fun h => byteAt_get s 0 h
  have hz : (0 : Int) < (s.size : Int) := by omega
  have hz' : 0 < s.size := by omega
  by_cases h2 : s.size ≠ 1 ∧ byteAt s 0 = 48
  · have HR := Lib.hid (numRes_no (w := w) (w' := w) (num_first h2.1 h2.2) (B.refl w))
    rw [decide_eq_false h2.1, Bool.false_and] at hZ
    obtain ⟨_, h3⟩ := h2
    rw [h3] at hg0
    clear h1 h3
    go_enter Tryd.func22, Tryd.ntmps22
    go_wp2
    go_ret2
    exact HR.out
  have hconv := fun w => Lib.run_convert_string_bytes (P := Tryd.prog) w 9 27 5 s Tryd.underlying9 Tryd.underlying27 Tryd.underlying5
  have hcell : ∀ j, j < s.size → (Lib.bytesWorld w 5 s).cell? ⟨w.heap.size, j, none⟩ = some (.int .u8 ((byteAt s j : Nat) : Int)) := fun j hj => Lib.bytesWorld_cell w _ s j hj
  have HB := Lib.hid ((B.refl w).bytes 5 s)
  have H1 := Lib.hid (show 1 ≤ s.size ∧ ¬ (2 ≤ s.size ∧ byteAt s 0 = 48) from ⟨by omega, fun h => h2 ⟨by omega, h.2⟩⟩)
  by_cases h3 : byteAt s 0 = 48
  · have h4 : s.size = 1 := by by_cases c : s.size = 1; · exact c
                               · exact absurd ⟨c, h3⟩ h2
    rw [decide_eq_true h4, decide_eq_true h3, Bool.true_and] at hZ
    have hg0' := hg0
    rw [h3] at hg0'
    have HS := Lib.hid (And.intro h3 h4)
    clear h1 h2 h3 h4 hg0
    have hg0 := hg0'
    clear hg0'
    go_enter Tryd.func22, Tryd.ntmps22
    go_wp2
    clear hE hZ hg0 
    generalize Lib.bytesWorld w 5 s = W1 at *
    generalize w.heap.size = H at *
    go_loopw [4, 21] (fun nv iv wr => ∃ k : Nat, k ≤ s.size ∧ iv = .int .i64 k ∧ nv = .int .i64 ((valTo s k : Nat) : Int) ∧ (∀ j, j < k → digN (byteAt s j) = true) ∧ valTo s k ≤ 1000000000000 ∧ W1 = wr) (fun _ iv _ => s.size + 1 - (intOf iv).toNat)
    case atStart => exact ⟨0, by omega, rfl, rfl, fun j hj => by omega, Nat.zero_le _, rfl⟩
    case round =>
      obtain ⟨k, hk, rfl, rfl, hall, hv, rfl⟩ := hrel
      have hshort := num_short H1.out.2 hk hall hv
      by_cases hl : k < s.size
      · have hlB : decide ((k : Int) < (s.size : Int)) = true := decide_eq_true (by omega)
        have hlI : (k : Int) < (s.size : Int) := by omega
        have wk1 : IntKind.i64.wrap ((k : Int) + 1) = (k : Int) + 1 := by rw [IntKind.wrap_i64]; omega
        have hc := hcell k hl
        have ck := fun w => kind_any (byteAt s k) w
        cases hd : digN (byteAt s k)
        · have hK : ((kindN (byteAt s k) : Int) != 3) = true := by
            have : kindN (byteAt s k) ≠ 3 := fun e => by rw [kind_dig.2 e] at hd; cases hd
            simp; omega
          have HR := Lib.hid (numRes_no (num_bad hl hd) HB.out)
          obtain ⟨m, hm⟩ : ∃ m, byteAt s k = m := ⟨_, rfl⟩
          rw [hm] at hc hK ck
          generalize kindN m = K at *
          clear hcell hall hv hd hm HB H1 hl hk
          go_wp2_with fail
          refine (ck _).mono ?_
          rintro e w1 ⟨rfl, rfl⟩
          clear ck
          go_wp2
          go_ret2
          exact HR.out
        · have hK : ((kindN (byteAt s k) : Int) != 3) = false := by
            have := kind_dig.1 hd
            simp; omega
          obtain ⟨d, d1, d2, d3⟩ := num_step hd
          have hall' : ∀ j, j < k + 1 → digN (byteAt s j) = true := fun j hj => by
            by_cases c : j = k
            · subst c; exact hd
            · exact hall j (by omega)
          obtain ⟨V, hV⟩ : ∃ V, valTo s k = V := ⟨_, rfl⟩
          obtain ⟨V', hV'⟩ : ∃ V', valTo s (k + 1) = V' := ⟨_, rfl⟩
          obtain ⟨T, hT⟩ : ∃ T, T = V * 10 := ⟨_, rfl⟩
          rw [hV] at hv
          have p1 : IntKind.i64.wrap ((V : Int) * 10) = (T : Int) := by rw [IntKind.wrap_i64]; omega
          have p2 := pick_dig d1 d2
          have p3 : IntKind.i64.wrap (d : Int) = (d : Int) := by rw [IntKind.wrap_i64]; omega
          have p4 : IntKind.i64.wrap ((T : Int) + (d : Int)) = (V' : Int) := by rw [IntKind.wrap_i64]; omega
          obtain ⟨m, hm⟩ : ∃ m, byteAt s k = m := ⟨_, rfl⟩
          rw [hm] at hc hK ck p2
          by_cases hbig : 1000000000000 < V'
          · have bB : decide ((1000000000000 : Int) < (V' : Int)) = true := decide_eq_true (by omega)
            have HR := Lib.hid (numRes_no (num_big (s := s) (k := k + 1) (by omega) (by rw [hV']; exact hbig)) HB.out)
            generalize kindN m = K at *
            rw [hV]
            clear hcell hall hall' hv hd hm HB H1 hl hk d1 d2 d3 hV hV' hT hbig
            go_wp2_with fail
            refine (ck _).mono ?_
            rintro e w1 ⟨rfl, rfl⟩
            clear ck
            go_wp2
            go_ret2
            exact HR.out
          · have bB : decide ((1000000000000 : Int) < (V' : Int)) = false := decide_eq_false (by omega)
            have HA := Lib.hid (And.intro hall' (And.intro hl (And.intro (show V' ≤ 1000000000000 by omega) hV')))
            generalize kindN m = K at *
            rw [hV]
            clear hcell hall hall' hv hd hm H1 hl hk d1 d2 d3 hV hV' hT hbig
            go_wp2_with fail
            refine (ck _).mono ?_
            rintro e w1 ⟨rfl, rfl⟩
            clear ck
            go_wp2
            go_roundw
            case rel => exact ⟨k + 1, by have := HA.out.2.1; omega, by go_num, by rw [HA.out.2.2.2], HA.out.1, by rw [HA.out.2.2.2]; exact HA.out.2.2.1, trivial⟩
            case measure => have := HA.out.2.1; simp [intOf]; omega
      · have hlB : decide ((k : Int) < (s.size : Int)) = false := decide_eq_false (by omega)
        have hk' : k = s.size := by omega
        have HR := Lib.hid (show NumRes s w (.returned (.tuple #[.int .i64 ((valTo s k : Nat) : Int), .bool true])) W1 from by
          obtain ⟨e1, e2⟩ := num_yes ⟨H1.out.1, H1.out.2, fun i hi => hall i (by omega), by rw [← hk']; exact hv⟩
          exact ⟨by rw [e1, e2, hk'], HB.out⟩)
        generalize valTo s k = V at *
        clear hcell hall hv HB H1 hk hk'
        go_wp2
        go_ret2
        exact HR.out
  · have e48 : ((byteAt s 0 : Int) == 48) = false := by simp; omega
    clear h1 h2
    generalize hb0 : byteAt s 0 = b0 at hg0 e48
    clear h3 hb0
    go_enter Tryd.func22, Tryd.ntmps22
    go_wp2
    clear hE hZ hg0 e48
    generalize Lib.bytesWorld w 5 s = W1 at *
    generalize w.heap.size = H at *
    go_loopw [4, 21] (fun nv iv wr => ∃ k : Nat, k ≤ s.size ∧ iv = .int .i64 k ∧ nv = .int .i64 ((valTo s k : Nat) : Int) ∧ (∀ j, j < k → digN (byteAt s j) = true) ∧ valTo s k ≤ 1000000000000 ∧ W1 = wr) (fun _ iv _ => s.size + 1 - (intOf iv).toNat)
    case atStart => exact ⟨0, by omega, rfl, rfl, fun j hj => by omega, Nat.zero_le _, rfl⟩
    case round =>
      obtain ⟨k, hk, rfl, rfl, hall, hv, rfl⟩ := hrel
      have hshort := num_short H1.out.2 hk hall hv
      by_cases hl : k < s.size
      · have hlB : decide ((k : Int) < (s.size : Int)) = true := decide_eq_true (by omega)
        have hlI : (k : Int) < (s.size : Int) := by omega
        have wk1 : IntKind.i64.wrap ((k : Int) + 1) = (k : Int) + 1 := by rw [IntKind.wrap_i64]; omega
        have hc := hcell k hl
        have ck := fun w => kind_any (byteAt s k) w
        cases hd : digN (byteAt s k)
        · have hK : ((kindN (byteAt s k) : Int) != 3) = true := by
            have : kindN (byteAt s k) ≠ 3 := fun e => by rw [kind_dig.2 e] at hd; cases hd
            simp; omega
          have HR := Lib.hid (numRes_no (num_bad hl hd) HB.out)
          obtain ⟨m, hm⟩ : ∃ m, byteAt s k = m := ⟨_, rfl⟩
          rw [hm] at hc hK ck
          generalize kindN m = K at *
          clear hcell hall hv hd hm HB H1 hl hk
          go_wp2_with fail
          refine (ck _).mono ?_
          rintro e w1 ⟨rfl, rfl⟩
          clear ck
          go_wp2
          go_ret2
          exact HR.out
        · have hK : ((kindN (byteAt s k) : Int) != 3) = false := by
            have := kind_dig.1 hd
            simp; omega
          obtain ⟨d, d1, d2, d3⟩ := num_step hd
          have hall' : ∀ j, j < k + 1 → digN (byteAt s j) = true := fun j hj => by
            by_cases c : j = k
            · subst c; exact hd
            · exact hall j (by omega)
          obtain ⟨V, hV⟩ : ∃ V, valTo s k = V := ⟨_, rfl⟩
          obtain ⟨V', hV'⟩ : ∃ V', valTo s (k + 1) = V' := ⟨_, rfl⟩
          obtain ⟨T, hT⟩ : ∃ T, T = V * 10 := ⟨_, rfl⟩
          rw [hV] at hv
          have p1 : IntKind.i64.wrap ((V : Int) * 10) = (T : Int) := by rw [IntKind.wrap_i64]; omega
          have p2 := pick_dig d1 d2
          have p3 : IntKind.i64.wrap (d : Int) = (d : Int) := by rw [IntKind.wrap_i64]; omega
          have p4 : IntKind.i64.wrap ((T : Int) + (d : Int)) = (V' : Int) := by rw [IntKind.wrap_i64]; omega
          obtain ⟨m, hm⟩ : ∃ m, byteAt s k = m := ⟨_, rfl⟩
          rw [hm] at hc hK ck p2
          by_cases hbig : 1000000000000 < V'
          · have bB : decide ((1000000000000 : Int) < (V' : Int)) = true := decide_eq_true (by omega)
            have HR := Lib.hid (numRes_no (num_big (s := s) (k := k + 1) (by omega) (by rw [hV']; exact hbig)) HB.out)
            generalize kindN m = K at *
            rw [hV]
            clear hcell hall hall' hv hd hm HB H1 hl hk d1 d2 d3 hV hV' hT hbig
            go_wp2_with fail
            refine (ck _).mono ?_
            rintro e w1 ⟨rfl, rfl⟩
            clear ck
            go_wp2
            go_ret2
            exact HR.out
          · have bB : decide ((1000000000000 : Int) < (V' : Int)) = false := decide_eq_false (by omega)
            have HA := Lib.hid (And.intro hall' (And.intro hl (And.intro (show V' ≤ 1000000000000 by omega) hV')))
            generalize kindN m = K at *
            rw [hV]
            clear hcell hall hall' hv hd hm H1 hl hk d1 d2 d3 hV hV' hT hbig
            go_wp2_with fail
            refine (ck _).mono ?_
            rintro e w1 ⟨rfl, rfl⟩
            clear ck
            go_wp2
            go_roundw
            case rel => exact ⟨k + 1, by have := HA.out.2.1; omega, by go_num, by rw [HA.out.2.2.2], HA.out.1, by rw [HA.out.2.2.2]; exact HA.out.2.2.1, trivial⟩
            case measure => have := HA.out.2.1; simp [intOf]; omega
      · have hlB : decide ((k : Int) < (s.size : Int)) = false := decide_eq_false (by omega)
        have hk' : k = s.size := by omega
        have HR := Lib.hid (show NumRes s w (.returned (.tuple #[.int .i64 ((valTo s k : Nat) : Int), .bool true])) W1 from by
          obtain ⟨e1, e2⟩ := num_yes ⟨H1.out.1, H1.out.2, fun i hi => hall i (by omega), by rw [← hk']; exact hv⟩
          exact ⟨by rw [e1, e2, hk'], HB.out⟩)
        generalize valTo s k = V at *
        clear hcell hall hv HB H1 hk hk'
        go_wp2
        go_ret2
        exact HR.out
end Go.Proofs.YtjcpabppklkjpaaDoor

namespace Go.Proofs.YtjcpabppklkjpaaDoor
open Go.RowKit
theorem pick_dig8 {m d : Nat} (h : m = 48 + d) (hd : d ≤ 9) : IntKind.u8.wrap ((m : Int) - 48) = (d : Int) := by
  simp [IntKind.wrap, IntKind.signed, IntKind.bits]; omega
set_option maxHeartbeats 1000000 in
theorem r8number_any (s : ByteArray) (w : World) : Calls Tryd.prog 24 #[.string s] w fun e w' => e = .returned (.tuple #[.int .i64 ((numV s : Nat) : Int), .bool (numOk s)]) ∧ w = w' := by
  have hE := toList_empty s
  have no : numOk s = false ∧ numV s = 0 → Ending.returned (.tuple #[.int .i64 0, .bool false]) = Ending.returned (.tuple #[.int .i64 ((numV s : Nat) : Int), .bool (numOk s)]) := fun h => by rw [h.1, h.2]; rfl
  by_cases h1 : s.size < 1
  · rw [decide_eq_true h1] at hE
    have HR := Lib.hid (no (num_no (s := s) (fun h => by omega)))
    clear h1 no
    go_enter Tryd.func24, Tryd.ntmps24
    go_wp2
    go_ret2
    exact ⟨HR.out, rfl⟩
  rw [decide_eq_false h1] at hE
  by_cases h2 : 13 < s.size
  · have h2B : decide ((13 : Int) < (s.size : Int)) = true := decide_eq_true (by omega)
    have HR := Lib.hid (no (num_long h2))
    clear h1 h2 no
    go_enter Tryd.func24, Tryd.ntmps24
    go_wp2
    go_ret2
    exact ⟨HR.out, rfl⟩
  have h2B : decide ((13 : Int) < (s.size : Int)) = false := decide_eq_false (by omega)
  have hg0 : ∀ h : 0 < s.size, (s[0]'h).toNat = byteAt s 0 := fun h => byteAt_get s 0 h
  have hz : (0 : Int) < (s.size : Int) := by omega
  have hz' : 0 < s.size := by omega
  have HSZ := Lib.hid (show s.size ≤ 13 by omega)
  by_cases h3 : s.size ≠ 1 ∧ byteAt s 0 = 48
  · have h1B : decide ((1 : Int) < (s.size : Int)) = true := decide_eq_true (by omega)
    have e48 : ((byteAt s 0 : Int) == 48) = true := by rw [h3.2]; rfl
    have HR := Lib.hid (no (num_first h3.1 h3.2))
    generalize hb0 : byteAt s 0 = b0 at hg0 e48
    clear h1 h2 h3 hb0 no
    go_enter Tryd.func24, Tryd.ntmps24
    go_wp2
    go_ret2
    exact ⟨HR.out, rfl⟩
  have H1 := Lib.hid (show 1 ≤ s.size ∧ ¬ (2 ≤ s.size ∧ byteAt s 0 = 48) from ⟨by omega, fun h => h3 ⟨by omega, h.2⟩⟩)
  have hgk := Lib.hid (fun k h => byteAt_get s k h)
  replace no := Lib.hid no
  by_cases h4 : s.size = 1
  · have h1B : decide ((1 : Int) < (s.size : Int)) = false := decide_eq_false (by omega)
    clear h1 h2 h3 h4
    go_enter Tryd.func24, Tryd.ntmps24
    go_wp2
    clear hE hg0 h2B h1B 
    go_loopw [4, 5] (fun nv iv wr => ∃ k : Nat, k ≤ s.size ∧ iv = .int .i64 k ∧ nv = .int .i64 ((valTo s k : Nat) : Int) ∧ (∀ j, j < k → digN (byteAt s j) = true) ∧ w = wr) (fun _ iv _ => s.size + 1 - (intOf iv).toNat)
    case atStart => exact ⟨0, by omega, rfl, rfl, fun j hj => by omega, rfl⟩
    case round =>
      obtain ⟨k, hk, rfl, rfl, hall, rfl⟩ := hrel
      by_cases hl : k < s.size
      · have hlB : decide ((k : Int) < (s.size : Int)) = true := decide_eq_true (by omega)
        have hlI : (k : Int) < (s.size : Int) := by omega
        have hk0 : (0 : Int) ≤ (k : Int) := by omega
        have wk1 : IntKind.i64.wrap ((k : Int) + 1) = (k : Int) + 1 := by have := HSZ.out; rw [IntKind.wrap_i64]; omega
        have hg : ∀ h : k < s.size, (s[k]'h).toNat = byteAt s k := fun h => byteAt_get s k h
        have ck := fun w => r8digit_any (byteAt s k) w
        cases hd : digN (byteAt s k)
        · rw [hd] at ck
          have HR := Lib.hid (no.out (num_bad hl hd))
          obtain ⟨m, hm⟩ : ∃ m, byteAt s k = m := ⟨_, rfl⟩
          rw [hm] at hg ck
          clear hall hd hm H1 hk no hgk
          go_wp2_with fail
          refine (ck _).mono ?_
          rintro e w1 ⟨rfl, rfl⟩
          clear ck
          go_wp2
          go_ret2
          exact ⟨HR.out, rfl⟩
        · rw [hd] at ck
          obtain ⟨d, d1, d2, d3⟩ := num_step hd
          have hall' : ∀ j, j < k + 1 → digN (byteAt s j) = true := fun j hj => by
            by_cases c : j = k
            · subst c; exact hd
            · exact hall j (by omega)
          have hv : valTo s k < 10 ^ k := valTo_high s k hall
          have hv13 : (10 : Nat) ^ k ≤ 10 ^ 13 := Nat.pow_le_pow_right (by decide) (by have := HSZ.out; omega)
          have hv14 : (10 : Nat) ^ 13 = 10000000000000 := by decide
          obtain ⟨V, hV⟩ : ∃ V, valTo s k = V := ⟨_, rfl⟩
          obtain ⟨V', hV'⟩ : ∃ V', valTo s (k + 1) = V' := ⟨_, rfl⟩
          obtain ⟨T, hT⟩ : ∃ T, T = V * 10 := ⟨_, rfl⟩
          rw [hV] at hv
          have p1 : IntKind.i64.wrap (10 * (V : Int)) = (T : Int) := by rw [IntKind.wrap_i64]; omega
          have p2 := pick_dig8 d1 d2
          have p3 : IntKind.i64.wrap (d : Int) = (d : Int) := by rw [IntKind.wrap_i64]; omega
          have p4 : IntKind.i64.wrap ((T : Int) + (d : Int)) = (V' : Int) := by rw [IntKind.wrap_i64]; omega
          obtain ⟨m, hm⟩ : ∃ m, byteAt s k = m := ⟨_, rfl⟩
          rw [hm] at hg ck p2
          have HA := Lib.hid (And.intro hall' (And.intro hl hV'))
          rw [hV]
          clear hall hall' hv hv13 hv14 hd hm H1 hk d1 d2 d3 hV hV' hT no hgk
          go_wp2_with fail
          refine (ck _).mono ?_
          rintro e w1 ⟨rfl, rfl⟩
          clear ck
          go_wp2
          go_roundw
          case rel => exact ⟨k + 1, by have := HA.out.2.1; omega, by go_num, by rw [HA.out.2.2], HA.out.1, trivial⟩
          case measure => have := HA.out.2.1; simp [intOf]; omega
      · have hlB : decide ((k : Int) < (s.size : Int)) = false := decide_eq_false (by omega)
        obtain rfl : k = s.size := by omega
        by_cases hbig : 1000000000000 < valTo s s.size
        · have bB : decide ((1000000000000 : Int) < (valTo s s.size : Int)) = true := decide_eq_true (by omega)
          have HR := Lib.hid (no.out (num_big (Nat.le_refl _) hbig))
          generalize valTo s s.size = V at *
          clear hall H1 hk no hgk hbig
          go_wp2
          go_ret2
          exact ⟨HR.out, rfl⟩
        · have bB : decide ((1000000000000 : Int) < (valTo s s.size : Int)) = false := decide_eq_false (by omega)
          have HR := Lib.hid (show Ending.returned (.tuple #[.int .i64 ((valTo s s.size : Nat) : Int), .bool true]) = Ending.returned (.tuple #[.int .i64 ((numV s : Nat) : Int), .bool (numOk s)]) from by
            obtain ⟨e1, e2⟩ := num_yes ⟨H1.out.1, H1.out.2, hall, by omega⟩
            rw [e1, e2])
          generalize valTo s s.size = V at *
          clear hall H1 hk no hgk hbig
          go_wp2
          go_ret2
          exact ⟨HR.out, rfl⟩
  · have h1B : decide ((1 : Int) < (s.size : Int)) = true := decide_eq_true (by omega)
    have e48 : ((byteAt s 0 : Int) == 48) = false := by simp; omega
    generalize hb0 : byteAt s 0 = b0 at hg0 e48
    clear h1 h2 h3 h4 hb0
    go_enter Tryd.func24, Tryd.ntmps24
    go_wp2
    clear hE hg0 h2B h1B e48
    go_loopw [4, 5] (fun nv iv wr => ∃ k : Nat, k ≤ s.size ∧ iv = .int .i64 k ∧ nv = .int .i64 ((valTo s k : Nat) : Int) ∧ (∀ j, j < k → digN (byteAt s j) = true) ∧ w = wr) (fun _ iv _ => s.size + 1 - (intOf iv).toNat)
    case atStart => exact ⟨0, by omega, rfl, rfl, fun j hj => by omega, rfl⟩
    case round =>
      obtain ⟨k, hk, rfl, rfl, hall, rfl⟩ := hrel
      by_cases hl : k < s.size
      · have hlB : decide ((k : Int) < (s.size : Int)) = true := decide_eq_true (by omega)
        have hlI : (k : Int) < (s.size : Int) := by omega
        have hk0 : (0 : Int) ≤ (k : Int) := by omega
        have wk1 : IntKind.i64.wrap ((k : Int) + 1) = (k : Int) + 1 := by have := HSZ.out; rw [IntKind.wrap_i64]; omega
        have hg : ∀ h : k < s.size, (s[k]'h).toNat = byteAt s k := fun h => byteAt_get s k h
        have ck := fun w => r8digit_any (byteAt s k) w
        cases hd : digN (byteAt s k)
        · rw [hd] at ck
          have HR := Lib.hid (no.out (num_bad hl hd))
          obtain ⟨m, hm⟩ : ∃ m, byteAt s k = m := ⟨_, rfl⟩
          rw [hm] at hg ck
          clear hall hd hm H1 hk no hgk
          go_wp2_with fail
          refine (ck _).mono ?_
          rintro e w1 ⟨rfl, rfl⟩
          clear ck
          go_wp2
          go_ret2
          exact ⟨HR.out, rfl⟩
        · rw [hd] at ck
          obtain ⟨d, d1, d2, d3⟩ := num_step hd
          have hall' : ∀ j, j < k + 1 → digN (byteAt s j) = true := fun j hj => by
            by_cases c : j = k
            · subst c; exact hd
            · exact hall j (by omega)
          have hv : valTo s k < 10 ^ k := valTo_high s k hall
          have hv13 : (10 : Nat) ^ k ≤ 10 ^ 13 := Nat.pow_le_pow_right (by decide) (by have := HSZ.out; omega)
          have hv14 : (10 : Nat) ^ 13 = 10000000000000 := by decide
          obtain ⟨V, hV⟩ : ∃ V, valTo s k = V := ⟨_, rfl⟩
          obtain ⟨V', hV'⟩ : ∃ V', valTo s (k + 1) = V' := ⟨_, rfl⟩
          obtain ⟨T, hT⟩ : ∃ T, T = V * 10 := ⟨_, rfl⟩
          rw [hV] at hv
          have p1 : IntKind.i64.wrap (10 * (V : Int)) = (T : Int) := by rw [IntKind.wrap_i64]; omega
          have p2 := pick_dig8 d1 d2
          have p3 : IntKind.i64.wrap (d : Int) = (d : Int) := by rw [IntKind.wrap_i64]; omega
          have p4 : IntKind.i64.wrap ((T : Int) + (d : Int)) = (V' : Int) := by rw [IntKind.wrap_i64]; omega
          obtain ⟨m, hm⟩ : ∃ m, byteAt s k = m := ⟨_, rfl⟩
          rw [hm] at hg ck p2
          have HA := Lib.hid (And.intro hall' (And.intro hl hV'))
          rw [hV]
          clear hall hall' hv hv13 hv14 hd hm H1 hk d1 d2 d3 hV hV' hT no hgk
          go_wp2_with fail
          refine (ck _).mono ?_
          rintro e w1 ⟨rfl, rfl⟩
          clear ck
          go_wp2
          go_roundw
          case rel => exact ⟨k + 1, by have := HA.out.2.1; omega, by go_num, by rw [HA.out.2.2], HA.out.1, trivial⟩
          case measure => have := HA.out.2.1; simp [intOf]; omega
      · have hlB : decide ((k : Int) < (s.size : Int)) = false := decide_eq_false (by omega)
        obtain rfl : k = s.size := by omega
        by_cases hbig : 1000000000000 < valTo s s.size
        · have bB : decide ((1000000000000 : Int) < (valTo s s.size : Int)) = true := decide_eq_true (by omega)
          have HR := Lib.hid (no.out (num_big (Nat.le_refl _) hbig))
          generalize valTo s s.size = V at *
          clear hall H1 hk no hgk hbig
          go_wp2
          go_ret2
          exact ⟨HR.out, rfl⟩
        · have bB : decide ((1000000000000 : Int) < (valTo s s.size : Int)) = false := decide_eq_false (by omega)
          have HR := Lib.hid (show Ending.returned (.tuple #[.int .i64 ((valTo s s.size : Nat) : Int), .bool true]) = Ending.returned (.tuple #[.int .i64 ((numV s : Nat) : Int), .bool (numOk s)]) from by
            obtain ⟨e1, e2⟩ := num_yes ⟨H1.out.1, H1.out.2, hall, by omega⟩
            rw [e1, e2])
          generalize valTo s s.size = V at *
          clear hall H1 hk no hgk hbig
          go_wp2
          go_ret2
          exact ⟨HR.out, rfl⟩
end Go.Proofs.YtjcpabppklkjpaaDoor

namespace Go.Proofs.YtjcpabppklkjpaaDoor
open Go.RowKit
theorem kind_low {n : Nat} : lowN n = true ↔ kindN n = 1 := by
  constructor
  · intro h
    unfold kindN
    rw [if_pos h]
  · intro h
    unfold kindN at h
    split at h
    · assumption
    repeat' (split at h)
    all_goals omega
set_option maxHeartbeats 1000000 in
theorem name_any (s : ByteArray) (w : World) : Calls Tryd.prog 34 #[.string s] w fun e w' => e = .returned (.bool (nameS s)) ∧ B w w' := by
  have hE := toList_empty s
  by_cases h2 : 16 < s.size
  · have h2B : decide ((16 : Int) < (s.size : Int)) = true := decide_eq_true (by omega)
    rw [nameS_size (.inr h2)]
    clear h2 hE
    go_enter Tryd.func34, Tryd.ntmps34
    go_wp2
    go_ret
    exact ⟨rfl, B.refl _⟩
  have h2B : decide ((16 : Int) < (s.size : Int)) = false := decide_eq_false (by omega)
  by_cases h1 : s.size < 1
  · rw [decide_eq_true h1] at hE
    rw [nameS_size (.inl h1)]
    clear h1 h2
    go_enter Tryd.func34, Tryd.ntmps34
    go_wp2
    go_ret
    exact ⟨rfl, B.refl _⟩
  rw [decide_eq_false h1] at hE
  have hz : (0 : Int) < (s.size : Int) := by omega
  have hz' : 0 < s.size := by omega
  have hg0 : ∀ h : 0 < s.size, (s[0]'h).toNat = byteAt s 0 := fun h => byteAt_get s 0 h
  have ck := fun w => kind_any (byteAt s 0) w
  cases h3 : lowN (byteAt s 0)
  · have hK : ((kindN (byteAt s 0) : Int) != 1) = true := by
      have : kindN (byteAt s 0) ≠ 1 := fun e => by rw [kind_low.2 e] at h3; cases h3
      simp; omega
    rw [nameS_first h3]
    obtain ⟨m, hm⟩ : ∃ m, byteAt s 0 = m := ⟨_, rfl⟩
    rw [hm] at hg0 hK ck
    generalize kindN m = K at *
    clear h1 h2 h3 hm
    go_enter Tryd.func34, Tryd.ntmps34
    go_wp2_with fail
    refine (ck _).mono ?_
    rintro e w1 ⟨rfl, rfl⟩
    go_wp2
    go_ret
    exact ⟨rfl, B.refl _⟩
  have hK : ((kindN (byteAt s 0) : Int) != 1) = false := by
    have := kind_low.1 h3
    simp; omega
  have hconv := fun w => Lib.run_convert_string_bytes (P := Tryd.prog) w 9 27 5 s Tryd.underlying9 Tryd.underlying27 Tryd.underlying5
  have hcell : ∀ j, j < s.size → (Lib.bytesWorld w 5 s).cell? ⟨w.heap.size, j, none⟩ = some (.int .u8 ((byteAt s j : Nat) : Int)) := fun j hj => Lib.bytesWorld_cell w _ s j hj
  have HB := Lib.hid ((B.refl w).bytes 5 s)
  have hgood := Lib.hid (fun h => nameS_good (s := s) (by omega) (by omega) h3 h)
  have hbad := Lib.hid (show ∀ i, i < s.size → (lowN (byteAt s i) || digN (byteAt s i)) = false → nameS s = false from fun i h1 h2 => nameS_bad h1 h2)
  generalize nameS s = R at *
  have HSZ := Lib.hid (show s.size ≤ 16 by omega)
  generalize hb0 : byteAt s 0 = b0 at hg0 hK ck
  generalize kindN b0 = K at *
  clear h1 h2 h3 hb0
  go_enter Tryd.func34, Tryd.ntmps34
  go_wp2_with fail
  refine (ck _).mono ?_
  rintro e w1 ⟨rfl, rfl⟩
  clear ck
  go_wp2
  clear hg0 hK hE h2B
  generalize Lib.bytesWorld w 5 s = W1 at *
  generalize w.heap.size = H at *
  go_loopw [22] (fun iv wr => ∃ k : Nat, k ≤ s.size ∧ iv = .int .i64 k ∧ (∀ j, j < k → (lowN (byteAt s j) || digN (byteAt s j)) = true) ∧ W1 = wr) (fun iv _ => s.size + 1 - (intOf iv).toNat)
  case atStart => exact ⟨0, Nat.zero_le _, rfl, fun j hj => by omega, rfl⟩
  case round =>
    obtain ⟨k, hk, rfl, hall, rfl⟩ := hrel
    by_cases hl : k < s.size
    · have hlB : decide ((k : Int) < (s.size : Int)) = true := decide_eq_true (by omega)
      have hlI : (k : Int) < (s.size : Int) := by omega
      have wk1 : IntKind.i64.wrap ((k : Int) + 1) = (k : Int) + 1 := by have := HSZ.out; rw [IntKind.wrap_i64]; omega
      have hc := hcell k hl
      have ck := fun w => kind_any (byteAt s k) w
      have hnext : (lowN (byteAt s k) || digN (byteAt s k)) = true → ∀ j, j < k + 1 → (lowN (byteAt s j) || digN (byteAt s j)) = true := fun h j hj => by
        by_cases c : j = k
        · subst c; exact h
        · exact hall j (by omega)
      obtain ⟨m, hm⟩ : ∃ m, byteAt s k = m := ⟨_, rfl⟩
      have hb := hbad.out k hl
      rw [hm] at hc ck hnext hb
      by_cases c1 : kindN m = 1
      · have hK : ((kindN m : Int) != 1) = false := by simp; omega
        have HA := Lib.hid (And.intro (hnext (by rw [kind_low.2 c1]; rfl)) hl)
        generalize kindN m = K at *
        clear hnext hb hall hm c1 hcell hbad hgood HB hl hk
        go_wp2_with fail
        refine (ck _).mono ?_
        rintro e w1 ⟨rfl, rfl⟩
        clear ck
        go_wp2
        go_roundw
        case rel => exact ⟨k + 1, by have := HA.out.2; omega, by go_num, HA.out.1, trivial⟩
        case measure => have := HA.out.2; simp [intOf]; omega
      by_cases c3 : kindN m = 3
      · have hK : ((kindN m : Int) != 1) = true := by simp; omega
        have hK3 : ((kindN m : Int) != 3) = false := by simp; omega
        have HA := Lib.hid (And.intro (hnext (by rw [kind_dig.2 c3]; simp)) hl)
        generalize kindN m = K at *
        clear hnext hb hall hm c1 c3 hcell hbad hgood HB hl hk
        go_wp2_with fail
        refine (ck _).mono ?_
        rintro e w1 ⟨rfl, rfl⟩
        clear ck
        go_wp2
        go_roundw
        case rel => exact ⟨k + 1, by have := HA.out.2; omega, by go_num, HA.out.1, trivial⟩
        case measure => have := HA.out.2; simp [intOf]; omega
      · have hK : ((kindN m : Int) != 1) = true := by simp; omega
        have hK3 : ((kindN m : Int) != 3) = true := by simp; omega
        have e1 : lowN m = false := by
          cases h : lowN m
          · rfl
          · exact absurd (kind_low.1 h) c1
        have e3 : digN m = false := by
          cases h : digN m
          · rfl
          · exact absurd (kind_dig.1 h) c3
        obtain rfl := hb (by rw [e1, e3]; rfl)
        generalize kindN m = K at *
        clear hnext hb hall hm c1 c3 e1 e3 hcell hbad hgood hl hk
        go_wp2_with fail
        refine (ck _).mono ?_
        rintro e w1 ⟨rfl, rfl⟩
        clear ck
        go_wp2
        go_ret
        exact ⟨rfl, HB.out⟩
    · have hlB : decide ((k : Int) < (s.size : Int)) = false := decide_eq_false (by omega)
      have HR := Lib.hid (hgood.out (fun i hi => hall i (by omega)))
      clear hall hgood hbad hcell hk
      go_wp2
      go_ret
      exact ⟨by rw [HR.out]; rfl, HB.out⟩
end Go.Proofs.YtjcpabppklkjpaaDoor

namespace Go.Proofs.YtjcpabppklkjpaaDoor
open Go.RowKit
set_option linter.unusedVariables false
theorem wwithin_any (v e : Int) (w : World) : Calls Tryd.prog 35 #[.int .i64 v, .int .i64 e] w fun x w' => x = .returned (.bool (decide (0 ≤ v) && decide (v < e))) ∧ w = w' := by
  cases k1 : decide ((0 : Int) ≤ v)
  · go_enter Tryd.func35, Tryd.ntmps35
    go_wp2
    go_ret
    exact ⟨by simp [*], rfl⟩
  · cases k2 : decide (v < e)
    all_goals
      go_enter Tryd.func35, Tryd.ntmps35
      go_wp2
      go_ret
      exact ⟨by simp [*], rfl⟩
/-- May a well be so written? -/
def wrB (n : ByteArray) (r c : Int) : Bool := nameS n && (decide (0 ≤ r) && decide (r < 8)) && (decide (0 ≤ c) && decide (c < 12))
theorem written_any (n : ByteArray) (r c : Int) (w : World) : Calls Tryd.prog 23 #[.string n, .int .i64 r, .int .i64 c] w fun x w' => x = .returned (.bool (wrB n r c)) ∧ B w w' := by
  have cn := fun w => name_any n w
  have cr := fun w => wwithin_any r 8 w
  have cc := fun w => wwithin_any c 12 w
  unfold wrB
  generalize nameS n = b at *
  generalize (decide (0 ≤ r) && decide (r < 8)) = b2 at *
  generalize (decide (0 ≤ c) && decide (c < 12)) = b3 at *
  cases b
  · go_enter Tryd.func23, Tryd.ntmps23
    go_wp2_with fail
    refine (cn _).mono ?_
    rintro _ w1 ⟨rfl, q1⟩
    go_wp2
    go_ret
    exact ⟨rfl, q1⟩
  · cases b2
    · go_enter Tryd.func23, Tryd.ntmps23
      go_wp2_with fail
      refine (cn _).mono ?_
      rintro _ w1 ⟨rfl, q1⟩
      go_wp2_with fail
      refine (cr _).mono ?_
      rintro _ _ ⟨rfl, rfl⟩
      go_wp2
      go_ret
      exact ⟨rfl, q1⟩
    · go_enter Tryd.func23, Tryd.ntmps23
      go_wp2_with fail
      refine (cn _).mono ?_
      rintro _ w1 ⟨rfl, q1⟩
      go_wp2_with fail
      refine (cr _).mono ?_
      rintro _ _ ⟨rfl, rfl⟩
      go_wp2_with fail
      refine (cc _).mono ?_
      rintro _ _ ⟨rfl, rfl⟩
      go_wp2
      go_ret
      exact ⟨by cases b3 <;> rfl, q1⟩
theorem wsize_any (N : ByteArray) (X Y Z : Int) (sv : Value) (so : Option Addr) (sn sc : Nat) (hsv : sv = .slice so sn sc) (hb : 1 ≤ X ∧ X ≤ 8 ∧ 1 ≤ Y ∧ Y ≤ 12) (w : World) : Calls Tryd.prog 28 #[.agg #[.string N, .int .i64 X, .int .i64 Y, .int .i64 Z, sv]] w fun x w' => x = .returned (.int .i64 (X * Y)) ∧ Q w w' := by
  subst hsv
  obtain ⟨b1, b2, b3, b4⟩ := hb
  have hQ := (Q.refl w).alloc #[.string N, .int .i64 X, .int .i64 Y, .int .i64 Z, .slice so sn sc] 58
  have hxy := mul_small (a := X) (b := Y) (by omega) b2 (by omega) b4
  obtain ⟨P, hP⟩ : ∃ P, X * Y = P := ⟨_, rfl⟩
  rw [hP] at hxy ⊢
  have w1 : IntKind.i64.wrap (X * Y) = P := by rw [hP, IntKind.wrap_i64]; omega
  have k1 : decide (X < 1) = false := decide_eq_false (by omega)
  have k2 : decide ((8 : Int) < X) = false := decide_eq_false (by omega)
  have k3 : decide (Y < 1) = false := decide_eq_false (by omega)
  have k4 : decide ((12 : Int) < Y) = false := decide_eq_false (by omega)
  have HQ := Lib.hid hQ
  clear hP hxy b1 b2 b3 b4 hQ
  go_enter Tryd.func28, Tryd.ntmps28
  go_wp2
  go_ret
  exact ⟨rfl, HQ.out⟩
/-- Has a ware that well? -/
def hasB (N : ByteArray) (X Y : Int) (n : ByteArray) (r c : Int) : Bool := (N.toList == n.toList) && (decide (0 ≤ r) && decide (r < X)) && (decide (0 ≤ c) && decide (c < Y))
theorem whas_any (N : ByteArray) (X Y Z : Int) (sv : Value) (so : Option Addr) (sn sc : Nat) (hsv : sv = .slice so sn sc) (n : ByteArray) (r c : Int) (hX : I64 X) (hY : I64 Y) (hr : I64 r) (hc : I64 c) (w : World) : Calls Tryd.prog 29 #[.agg #[.string N, .int .i64 X, .int .i64 Y, .int .i64 Z, sv], .agg #[.string n, .int .i64 r, .int .i64 c]] w fun x w' => x = .returned (.bool (hasB N X Y n r c)) ∧ Q w w' := by
  subst hsv
  have hQ := ((Q.refl w).alloc #[.string N, .int .i64 X, .int .i64 Y, .int .i64 Z, .slice so sn sc] 58).alloc #[.string n, .int .i64 r, .int .i64 c] 23
  have cr := fun w => wwithin_any r X w
  have cc := fun w => wwithin_any c Y w
  have u1 : IntKind.i64.wrap X = X := by rw [IntKind.wrap_i64]; unfold I64 at hX; omega
  have u2 : IntKind.i64.wrap Y = Y := by rw [IntKind.wrap_i64]; unfold I64 at hY; omega
  have u3 : IntKind.i64.wrap r = r := by rw [IntKind.wrap_i64]; unfold I64 at hr; omega
  have u4 : IntKind.i64.wrap c = c := by rw [IntKind.wrap_i64]; unfold I64 at hc; omega
  have HQ := Lib.hid hQ
  clear hQ hX hY hr hc
  unfold hasB
  generalize (decide (0 ≤ r) && decide (r < X)) = b2 at *
  generalize (decide (0 ≤ c) && decide (c < Y)) = b3 at *
  cases hb : (N.toList == n.toList)
  · go_enter Tryd.func29, Tryd.ntmps29
    go_wp2
    go_ret
    exact ⟨rfl, HQ.out⟩
  · cases b2
    · go_enter Tryd.func29, Tryd.ntmps29
      go_wp2_with fail
      refine (cr _).mono ?_
      rintro _ _ ⟨rfl, rfl⟩
      go_wp2
      go_ret
      exact ⟨rfl, HQ.out⟩
    · go_enter Tryd.func29, Tryd.ntmps29
      go_wp2_with fail
      refine (cr _).mono ?_
      rintro _ _ ⟨rfl, rfl⟩
      go_wp2_with fail
      refine (cc _).mono ?_
      rintro _ _ ⟨rfl, rfl⟩
      go_wp2
      go_ret
      exact ⟨by cases b3 <;> rfl, HQ.out⟩
end Go.Proofs.YtjcpabppklkjpaaDoor
