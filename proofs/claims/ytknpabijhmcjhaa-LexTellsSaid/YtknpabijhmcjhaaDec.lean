/-
  Contract of the document's Dec: a number's digits.
-/
import Derived.Test.YtknpabijhmcjhaaNumm
import Derived.Test.YtknpabijhmcjhaaChecked
import Derived.Lib.Hide
import Derived.Lib.ItoaLen
import Derived.Laws.Strings2
import Derived.KernelRfl
namespace Go.Proofs.Ytknpabijhmcjhaa
open Go.RowKit

def decS (n : Nat) : ByteArray := ⟨(Lib.decDigits n).toArray⟩
theorem decS_small : ∀ n : Nat, n < 10 → ({ data := #[48, 49, 50, 51, 52, 53, 54, 55, 56, 57] } : ByteArray).extract n (n + 1) = decS n := by
  intro n hn
  have e : decS n = ⟨#[UInt8.ofNat (48 + n)]⟩ := by unfold decS; rw [Lib.decDigits, dif_pos hn]
  rw [e]
  have : n = 0 ∨ n = 1 ∨ n = 2 ∨ n = 3 ∨ n = 4 ∨ n = 5 ∨ n = 6 ∨ n = 7 ∨ n = 8 ∨ n = 9 := by omega
  rcases this with rfl | rfl | rfl | rfl | rfl | rfl | rfl | rfl | rfl | rfl <;> rfl
theorem decS_app {n q r : Nat} (h : 10 ≤ n) (hq : q = n / 10) (hr : r = n % 10) : decS q ++ decS r = decS n := by
  apply ByteArray.ext
  rw [ByteArray.data_append]
  have e1 : Lib.decDigits n = Lib.decDigits (n / 10) ++ [UInt8.ofNat (48 + n % 10)] := by rw [Lib.decDigits.eq_def n, dif_neg (by omega)]
  have e2 : Lib.decDigits (n % 10) = [UInt8.ofNat (48 + n % 10)] := by rw [Lib.decDigits.eq_def (n % 10), dif_pos (by omega)]
  unfold decS
  subst hq hr
  rw [e1, e2]
  simp
theorem decS_size {n : Nat} (h : n ≤ 10000000000000) : (decS n).size ≤ 20 := by
  have e : (decS n).size = (Lib.decDigits n).length := by simp [decS, ByteArray.size]
  rw [e, Lib.decDigits_length]
  exact Lib.nDigits_le20 n (by omega)
def digitsS : ByteArray := { data := #[48, 49, 50, 51, 52, 53, 54, 55, 56, 57] }
theorem slice_digit {n : Nat} (c : n < 10) (w : World) : (Instr.slice 9 (.string { data := #[48, 49, 50, 51, 52, 53, 54, 55, 56, 57] }) (some (.int .i64 (n : Int))) (some (.int .i64 ((n : Int) + 1))) none).run Try.prog w = .ok (.string (decS n)) w := by
  have hs : ({ data := #[48, 49, 50, 51, 52, 53, 54, 55, 56, 57] } : ByteArray).size = 10 := rfl
  rw [run_slice_string w 9 _ .i64 .i64 (n : Int) ((n : Int) + 1) Try.underlying9 (by omega) (by omega) (by rw [hs]; omega), ← decS_small n c]
  rw [show ((n : Int) + 1).toNat = n + 1 by omega, Int.toNat_natCast]
theorem r8dec_any : ∀ (f n : Nat), n ≤ f → n ≤ 10000000000000 → ∀ w : World, Calls Try.prog 13 #[.int .i64 (n : Int)] w fun e w' => e = .returned (.string (decS n)) ∧ w = w' := by
  intro f
  induction f with
  | zero =>
    intro n hf hn w
    obtain rfl : n = 0 := by omega
    have e := decS_small 0 (by decide)
    go_enter Try.func13, Try.ntmps13
    go_wp2
    go_ret
    exact ⟨by rw [← e]; rfl, rfl⟩
  | succ f ih =>
    intro n hf hn w
    by_cases c : n < 10
    · have e := slice_digit c
      have cB : decide ((n : Int) < 10) = true := decide_eq_true (by omega)
      have wk : IntKind.i64.wrap ((n : Int) + 1) = (n : Int) + 1 := by rw [IntKind.wrap_i64]; omega
      clear ih hf hn c
      go_enter Try.func13, Try.ntmps13
      go_wp2
      go_ret
      exact ⟨rfl, rfl⟩
    · obtain ⟨q, hq⟩ : ∃ q, q = n / 10 := ⟨_, rfl⟩
      obtain ⟨r, hr⟩ : ∃ r, r = n % 10 := ⟨_, rfl⟩
      have e := Lib.hid (decS_app (by omega) hq hr)
      have cB : decide ((n : Int) < 10) = false := decide_eq_false (by omega)
      have tq : (n : Int).tdiv 10 = (q : Int) := by rw [Int.tdiv_eq_ediv_of_nonneg (by omega)]; omega
      have tr : (n : Int).tmod 10 = (r : Int) := by rw [Int.tmod_eq_emod_of_nonneg (by omega)]; omega
      have wq : IntKind.i64.wrap (q : Int) = (q : Int) := by rw [IntKind.wrap_i64]; omega
      have wr : IntKind.i64.wrap (r : Int) = (r : Int) := by rw [IntKind.wrap_i64]; omega
      have hsz : ¬ 9223372036854775807 < (decS q).size + (decS r).size := by
        have := decS_size (n := q) (by omega)
        have := decS_size (n := r) (by omega)
        omega
      have c1 := ih q (by omega) (by omega)
      have c2 := ih r (by omega) (by omega)
      clear ih hf hn hq hr
      go_enter Try.func13, Try.ntmps13
      go_wp2_with fail
      refine (c1 _).mono ?_
      rintro e1 w1 ⟨rfl, rfl⟩
      go_wp2_with fail
      refine (c2 _).mono ?_
      rintro e1 w1 ⟨rfl, rfl⟩
      go_wp2_with fail
      go_ret
      exact ⟨by rw [← e.out]; rfl, rfl⟩
end Go.Proofs.Ytknpabijhmcjhaa
