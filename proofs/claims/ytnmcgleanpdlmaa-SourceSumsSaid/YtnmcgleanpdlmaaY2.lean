/-
  Plain facts of sections that may be. No program is named here; Plain mathematics of a division of 128 bits by 64: one digit at a time (base 2^32). No program is named here; Plain mathematics of a product by a number, made whole downwards or upwards. No program is named here; Plain mathematics of a straight side: from its lower end to its upper one, made whole. No program is named here; The sides of a section at a height. No program is named here; Plain mathematics of tables: areas, bounds of slices, their sums, what lies between. No program is named here; How tables lie in memory; a row that a struct's field holds and that grows. No program is named here; Two rows of sums that a struct's fields hold and that grow, one behind the other: from no row on. No program is named here; The code's tables lie in blocks that are known. No program is named here; What becomes of the world where blocks of known numbers may turn. No program is named here; Wares and tips in memory: a name, three numbers, a shape. No program is named here.
-/
import Derived.OwnWalk
import Derived.Laws.OwnMore
import Derived.Deep.AppendLies
import Derived.Maps.OwnSet
import Derived.Lib.BitFns
import Derived.Test.YtnmcgleanpdlmaaY1
namespace Go.Proofs.Ytnmcgleanpdlmaa
open Go.RowKit
theorem wrapI {z : Int} (h1 : -9223372036854775808 ≤ z) (h2 : z ≤ 9223372036854775807) : IntKind.i64.wrap z = z := by
  rw [IntKind.wrap_i64]; omega
theorem inB_iff {v a b : Int} : inB v a b = true ↔ a ≤ v ∧ v ≤ b := by unfold inB; simp
theorem secOk_all {s : Sec} (h : secOk s = true) : 1 ≤ s.h ∧ s.h ≤ 60000 ∧ 0 ≤ s.a0 ∧ s.a0 ≤ 20000 ∧ 1 ≤ s.a1 ∧ s.a1 ≤ 20000 ∧ 0 ≤ s.b0 ∧ s.b0 ≤ 20000 ∧ 0 ≤ s.b1 ∧ s.b1 ≤ 20000 ∧ (s.r = true → s.b0 = 0 ∧ s.b1 = 0) := by
  unfold secOk at h
  simp only [Bool.and_eq_true, decide_eq_true_eq, inB_iff] at h
  obtain ⟨⟨⟨⟨⟨h1, h2⟩, _⟩, h4, h5⟩, h6, h7⟩, h8⟩ := h
  cases hr : s.r
  · rw [hr, if_neg (by decide)] at h8
    simp only [Bool.and_eq_true, inB_iff] at h8
    refine ⟨h1, h2, h4, h5, h6, h7, by omega, by omega, by omega, by omega, by simp⟩
  · rw [hr, if_pos rfl] at h8
    simp only [Bool.and_eq_true, decide_eq_true_eq] at h8
    refine ⟨h1, h2, h4, h5, h6, h7, by omega, by omega, by omega, by omega, fun _ => h8⟩
theorem right_all {l : List Sec} (h : rightS l = true) : 1 ≤ l.length ∧ l.length ≤ 4 ∧ ∀ s ∈ l, secOk s = true := by
  unfold rightS at h
  simp only [Bool.and_eq_true, decide_eq_true_eq] at h
  exact ⟨h.1.1.1, h.1.1.2, List.all_eq_true.1 h.1.2⟩
theorem IsU16.form {w : World} {v : Value} {n : Nat} (h : IsU16 w v n) : ∃ ao cap, v = .slice ao n cap ∧ n ≤ 9223372036854775807 := by
  rcases h with ⟨rfl, rfl⟩ | ⟨a, cap, rfl, h1, h2, _⟩
  · exact ⟨_, _, rfl, by omega⟩
  · exact ⟨_, _, rfl, by unfold maxLen at h2; omega⟩
theorem IsU16.keepB {w w' : World} {v : Value} {n : Nat} (h : IsU16 w v n) (q : B w w') : IsU16 w' v n := by
  rcases h with h | ⟨a, cap, h1, h2, h3, h4⟩
  · exact .inl h
  · exact .inr ⟨a, cap, h1, h2, h3, fun i hi => by obtain ⟨x, a1, a2, a3⟩ := h4 i hi; exact ⟨x, a1, a2, q.keep a3⟩⟩
end Go.Proofs.Ytnmcgleanpdlmaa

namespace Go.Proofs.Ytnmcgleanpdlmaa
/-- One digit: q is above or at the true digit, and r is what is left of u behind it. -/
structure Dig (u a b c q r : Nat) : Prop where
  rest : u = q * a + r
  up : (u * 4294967296 + c) / (a * 4294967296 + b) ≤ q
  few : q ≤ 4294967297
/-- The true digit is below 2^32. -/
theorem dig_small (u a b c : Nat) (hc : c < 4294967296) (hu : u < a * 4294967296 + b) : (u * 4294967296 + c) / (a * 4294967296 + b) < 4294967296 := by
  rw [Nat.div_lt_iff_lt_mul (by omega)]; omega
/-- The digit is too great: one less, and what is left is more. -/
theorem Dig.next {u a b c q r : Nat} (hc : c < 4294967296) (hu : u < a * 4294967296 + b) (d : Dig u a b c q r) (h : 4294967296 ≤ q ∨ 4294967296 * r + c < q * b) :
    1 ≤ q ∧ Dig u a b c (q - 1) (r + a) := by
  have hs := dig_small u a b c hc hu
  have hq : (u * 4294967296 + c) / (a * 4294967296 + b) < q := by
    rcases h with h | h
    · omega
    · rw [Nat.div_lt_iff_lt_mul (show 0 < a * 4294967296 + b by omega), Nat.mul_add, ← Nat.mul_assoc]
      have := d.rest
      generalize q * a = x at *
      generalize q * b = z at *
      omega
  have hq1 : 0 < q := Nat.lt_of_le_of_lt (Nat.zero_le _) hq
  have hup : (u * 4294967296 + c) / (a * 4294967296 + b) ≤ q - 1 := Nat.le_sub_one_of_lt hq
  obtain ⟨p, rfl⟩ : ∃ p, q = p + 1 := ⟨q - 1, by omega⟩
  refine ⟨by omega, ⟨?_, hup, by have := d.few; omega⟩⟩
  have := d.rest
  rw [Nat.add_mul] at this
  simp only [Nat.add_sub_cancel]
  omega
/-- The digit is right. -/
theorem Dig.done {u a b c q r : Nat} (hb : b < 4294967296) (hu : u < a * 4294967296 + b) (d : Dig u a b c q r) (h : (q < 4294967296 ∧ q * b ≤ 4294967296 * r + c) ∨ (4294967296 ≤ r ∧ q ≤ 4294967296)) :
    q = (u * 4294967296 + c) / (a * 4294967296 + b) := by
  refine Nat.le_antisymm ?_ d.up
  rw [Nat.le_div_iff_mul_le (by omega), Nat.mul_add, ← Nat.mul_assoc]
  have hr := d.rest
  have hz : q * b ≤ 4294967296 * r + c := by
    rcases h with h | h
    · exact h.2
    · have : q * b ≤ 4294967296 * 4294967295 := Nat.mul_le_mul h.2 (by omega)
      omega
  generalize q * a = x at *
  generalize q * b = z at *
  omega
theorem wrapU (n : Int) : IntKind.u64.wrap n = n % 18446744073709551616 := IntKind.wrap_u64 n
theorem wrapN (a : Nat) (ha : a < 18446744073709551616) : IntKind.u64.wrap (a : Int) = (a : Int) := by rw [IntKind.wrap_u64]; omega
theorem wrapM (a : Nat) : IntKind.u64.wrap (a : Int) = ((a % 18446744073709551616 : Nat) : Int) := by rw [IntKind.wrap_u64]; omega
theorem maskN (a : Nat) (ha : a < 18446744073709551616) : bits .and .u64 (a : Int) 4294967295 = ((a % 4294967296 : Nat) : Int) := by
  have h := bits_and_u64_nat a 4294967295 ha (by omega)
  have e : a &&& 4294967295 = a % 4294967296 := Nat.and_two_pow_sub_one_eq_mod a 32
  rw [e] at h
  exact h
theorem or_join (s x y : Nat) (hx : 2 ^ s ∣ x) (hy : y < 2 ^ s) : x ||| y = x + y := by
  obtain ⟨k, rfl⟩ := hx
  rw [Nat.mul_comm, ← Nat.shiftLeft_eq, Nat.shiftLeft_add_eq_or_of_lt hy]
/-- The quotient and the rest of 128 bits by 64. -/
def dq (hi lo y : Nat) : Nat := (hi * 18446744073709551616 + lo) / y
def dr (hi lo y : Nat) : Nat := (hi * 18446744073709551616 + lo) % y
end Go.Proofs.Ytnmcgleanpdlmaa

namespace Go.Proofs.Ytnmcgleanpdlmaa
open Go.RowKit
/-- x by d (d above nought), made whole downwards, or upwards. -/
def mdQ (x d : Int) (up : Bool) : Int := if up then -((-x) / d) else x / d
/-- a times b by by, made whole. -/
def mq (a b y : Int) (up : Bool) : Int := mdQ (if y < 0 then -(a * b) else a * b) y.natAbs up
/-- What MulDiv answers. -/
def mv (a b y : Int) (up : Bool) : Int := if y = 0 then 0 else qv (mq a b y up)
def me (a b y : Int) (up : Bool) : Int := if y = 0 then 22 else qe (mq a b y up)
/-- An amount with a sign. -/
def sg (neg : Bool) (q : Nat) : Int := if neg then -(q : Int) else q
/-- Is the number below nought? By the signs of three. -/
def nb (a b y : Int) : Bool := (decide (a < 0) != decide (b < 0)) != decide (y < 0)
/-- An amount by a number, made whole away from nought, or towards it. -/
def qu (n d : Nat) (away : Bool) : Nat := n / d + (if away && decide (0 < n % d) then 1 else 0)
theorem sg_fits_pos (q : Nat) : I64 (sg false q) ↔ q ≤ 9223372036854775807 := by unfold I64 sg; simp; omega
theorem sg_fits_neg (q : Nat) : I64 (sg true q) ↔ q ≤ 9223372036854775808 := by unfold I64 sg; simp; omega
theorem neg_div (n d : Nat) (hd : 0 < d) : (-(n : Int)) / (d : Int) = -(qu n d true : Int) := by
  unfold qu
  rw [Int.neg_ediv]
  have hs : (d : Int).sign = 1 := Int.sign_eq_one_of_pos (by omega)
  by_cases hr : 0 < n % d
  · have hnd : ¬ (d : Int) ∣ (n : Int) := by
      rw [Int.natCast_dvd_natCast, Nat.dvd_iff_mod_eq_zero]; omega
    rw [if_neg hnd, hs, if_pos (by simpa using hr)]
    push_cast; omega
  · have hnd : (d : Int) ∣ (n : Int) := by
      rw [Int.natCast_dvd_natCast, Nat.dvd_iff_mod_eq_zero]; omega
    rw [if_pos hnd, if_neg (by simpa using hr)]
    push_cast; omega
theorem mdQ_sg (n d : Nat) (hd : 0 < d) (up neg : Bool) : mdQ (sg neg n) d up = sg neg (qu n d (up != neg)) := by
  have h := neg_div n d hd
  have h0 : (n : Int) / (d : Int) = (qu n d false : Int) := by unfold qu; simp
  cases neg <;> cases up <;> simp [mdQ, sg, h, h0]
theorem sg_mul (a b y : Int) : (if y < 0 then -(a * b) else a * b) = sg (nb a b y) (a.natAbs * b.natAbs) := by
  unfold sg nb
  rw [Int.natCast_mul]
  by_cases ha : a < 0 <;> by_cases hb : b < 0 <;> by_cases hy : y < 0
  all_goals
    first | rw [show (a.natAbs : Int) = -a by omega] | rw [show (a.natAbs : Int) = a by omega]
    first | rw [show (b.natAbs : Int) = -b by omega] | rw [show (b.natAbs : Int) = b by omega]
    simp [ha, hb, hy, Int.neg_mul, Int.mul_neg]
theorem mq_eq (a b y : Int) (up : Bool) (hy : y ≠ 0) : mq a b y up = sg (nb a b y) (qu (a.natAbs * b.natAbs) y.natAbs (up != nb a b y)) := by
  unfold mq
  rw [sg_mul, mdQ_sg _ _ (by omega)]
theorem abs_lt (a : Int) (h : I64 a) : a.natAbs < 18446744073709551616 ∧ a.natAbs ≤ 9223372036854775808 := by unfold I64 at h; omega
end Go.Proofs.Ytnmcgleanpdlmaa

namespace Go.Proofs.Ytnmcgleanpdlmaa
open Go.RowKit
theorem ediv_between {n h lo hi : Int} (hh : 0 < h) (h1 : lo * h ≤ n) (h2 : n ≤ hi * h) : lo ≤ n / h ∧ n / h ≤ hi := by
  constructor
  · exact (Int.le_ediv_iff_mul_le hh).2 h1
  · have : n / h < hi + 1 := (Int.ediv_lt_iff_lt_mul hh).2 (by rw [Int.add_mul]; omega)
    omega
theorem mdQ_between {n h lo hi : Int} (hh : 0 < h) (h1 : lo * h ≤ n) (h2 : n ≤ hi * h) (up : Bool) : lo ≤ mdQ n h up ∧ mdQ n h up ≤ hi := by
  unfold mdQ
  cases up
  · exact ediv_between hh h1 h2
  · have := ediv_between (n := -n) (lo := -hi) (hi := -lo) hh (by rw [Int.neg_mul]; omega) (by rw [Int.neg_mul]; omega)
    simp only [if_true]
    omega
theorem mdQ_ways {n h : Int} (hh : 0 < h) : mdQ n h false ≤ mdQ n h true ∧ mdQ n h true ≤ mdQ n h false + 1 := by
  have h1 := Int.ediv_mul_le n (show h ≠ 0 by omega)
  have h2 := Int.lt_ediv_add_one_mul_self n hh
  have h3 := mdQ_between (n := n) (h := h) (lo := n / h) (hi := n / h + 1) hh h1 (by omega) true
  have e : mdQ n h false = n / h := rfl
  rw [e]
  exact h3
theorem mq_pos (d at_ h : Int) (hh : 0 < h) (up : Bool) : mq d at_ h up = mdQ (d * at_) h up := by
  unfold mq
  rw [if_neg (by omega), show (h.natAbs : Int) = h by omega]
/-- A side at a place, of its ends. -/
def sideM (x0 x1 at_ h : Int) (up : Bool) : Int := x0 + mv (x1 - x0) at_ h up
theorem side_mq {x0 x1 at_ h : Int} (h0 : 0 ≤ at_) (h1 : at_ ≤ h) (hh : 1 ≤ h) (up : Bool) :
    min 0 (x1 - x0) ≤ mq (x1 - x0) at_ h up ∧ mq (x1 - x0) at_ h up ≤ max 0 (x1 - x0) := by
  rw [mq_pos _ _ _ (by omega)]
  by_cases hd : 0 ≤ x1 - x0
  · have a1 : 0 ≤ (x1 - x0) * at_ := Int.mul_nonneg hd h0
    have a2 : (x1 - x0) * at_ ≤ (x1 - x0) * h := Int.mul_le_mul_of_nonneg_left h1 hd
    have := mdQ_between (n := (x1 - x0) * at_) (h := h) (lo := 0) (hi := x1 - x0) (by omega) (by omega) a2 up
    omega
  · have e : (x1 - x0) * at_ = -((x0 - x1) * at_) := by rw [← Int.neg_mul]; congr 1; omega
    have a1 : 0 ≤ (x0 - x1) * at_ := Int.mul_nonneg (by omega) h0
    have a2 : (x0 - x1) * at_ ≤ (x0 - x1) * h := Int.mul_le_mul_of_nonneg_left h1 (by omega)
    have e2 : (x1 - x0) * h = -((x0 - x1) * h) := by rw [← Int.neg_mul]; congr 1; omega
    have := mdQ_between (n := (x1 - x0) * at_) (h := h) (lo := x1 - x0) (hi := 0) (by omega) (by omega) (by omega) up
    omega
/-- There is no error, and it lies between the ends. -/
theorem side_fits {x0 x1 at_ h : Int} (a0 : 0 ≤ x0) (b0 : x0 ≤ 20000) (a1 : 0 ≤ x1) (b1 : x1 ≤ 20000) (h0 : 0 ≤ at_) (h1 : at_ ≤ h) (hh : 1 ≤ h) (up : Bool) :
    me (x1 - x0) at_ h up = 0 ∧ mv (x1 - x0) at_ h up = mq (x1 - x0) at_ h up ∧ min x0 x1 ≤ sideM x0 x1 at_ h up ∧ sideM x0 x1 at_ h up ≤ max x0 x1 := by
  have hq := side_mq (x0 := x0) (x1 := x1) h0 h1 hh up
  have hI : I64 (mq (x1 - x0) at_ h up) := by unfold I64; omega
  have e1 : mv (x1 - x0) at_ h up = mq (x1 - x0) at_ h up := by rw [mv, if_neg (by omega), qv_yes hI]
  refine ⟨by rw [me, if_neg (by omega), qe_yes hI], e1, ?_, ?_⟩
  all_goals
    unfold sideM
    rw [e1]
    omega
theorem side_ways {x0 x1 at_ h : Int} (a0 : 0 ≤ x0) (b0 : x0 ≤ 20000) (a1 : 0 ≤ x1) (b1 : x1 ≤ 20000) (h0 : 0 ≤ at_) (h1 : at_ ≤ h) (hh : 1 ≤ h) :
    sideM x0 x1 at_ h false ≤ sideM x0 x1 at_ h true ∧ sideM x0 x1 at_ h true ≤ sideM x0 x1 at_ h false + 1 := by
  unfold sideM
  rw [(side_fits a0 b0 a1 b1 h0 h1 hh false).2.1, (side_fits a0 b0 a1 b1 h0 h1 hh true).2.1, mq_pos _ _ _ (by omega), mq_pos _ _ _ (by omega)]
  have := mdQ_ways (n := (x1 - x0) * at_) (h := h) (by omega)
  omega
end Go.Proofs.Ytnmcgleanpdlmaa

namespace Go.Proofs.Ytnmcgleanpdlmaa
open Go.RowKit
/-- The sides of a section at a height. -/
def sideOf (s : Sec) (at_ : Int) (up : Bool) : Int × Int :=
  if 1 ≤ s.h ∧ inB s.a0 0 20000 = true ∧ inB s.a1 0 20000 = true ∧ inB s.b0 0 20000 = true ∧ inB s.b1 0 20000 = true then
    (sideM s.a0 s.a1 (min (max at_ 0) s.h) s.h up, if s.r then 0 else sideM s.b0 s.b1 (min (max at_ 0) s.h) s.h up)
  else (0, 0)
theorem sideOf_ok {s : Sec} (h : secOk s = true) (at_ : Int) (up : Bool) : sideOf s at_ up = (sideM s.a0 s.a1 (min (max at_ 0) s.h) s.h up, if s.r then 0 else sideM s.b0 s.b1 (min (max at_ 0) s.h) s.h up) := by
  obtain ⟨h1, h2, h3, h4, h5, h6, h7, h8, h9, h10, _⟩ := secOk_all h
  unfold sideOf
  rw [if_pos ⟨h1, inB_iff.2 ⟨h3, h4⟩, inB_iff.2 ⟨by omega, h6⟩, inB_iff.2 ⟨h7, h8⟩, inB_iff.2 ⟨h9, h10⟩⟩]
end Go.Proofs.Ytnmcgleanpdlmaa

namespace Go.Proofs.Ytnmcgleanpdlmaa
open Go.RowKit
/-- An area of sides. -/
def areaM (r : Bool) (a b : Int) (up : Bool) : Int :=
  if r then (if up then (a * a * 355 + 451) / 452 else a * a * 333 / 424) else a * b
/-- The lower and the upper area of a slice. -/
def lowA (s : Sec) (t : Int) : Int := areaM s.r (min (sideOf s t false).1 (sideOf s (t + 100) false).1) (min (sideOf s t false).2 (sideOf s (t + 100) false).2) false
def highA (s : Sec) (t : Int) : Int := areaM s.r (max (sideOf s t true).1 (sideOf s (t + 100) true).1) (max (sideOf s t true).2 (sideOf s (t + 100) true).2) true
/-- The slices of a section, of a shape: their two bounds. -/
def slOf (s : Sec) : List (Int × Int) := (List.range (s.h / 100).toNat).map fun (j : Nat) => (100 * lowA s (100 * (j : Int)), 100 * highA s (100 * (j : Int)))
def slAll (l : List Sec) : List (Int × Int) := l.flatMap slOf
def lowT (L : List (Int × Int)) (k : Nat) : Int := ((L.take k).map Prod.fst).sum
def highT (L : List (Int × Int)) (k : Nat) : Int := ((L.take k).map Prod.snd).sum
theorem mul_le {a b c d : Int} (h0 : 0 ≤ a) (h1 : a ≤ c) (h2 : 0 ≤ b) (h3 : b ≤ d) : a * b ≤ c * d :=
  Int.le_trans (Int.mul_le_mul_of_nonneg_left h3 h0) (Int.mul_le_mul_of_nonneg_right h1 (by omega))
theorem area_le {r : Bool} {a b c d : Int} (h0 : 0 ≤ a) (h1 : a ≤ c) (h2 : 0 ≤ b) (h3 : b ≤ d) (u v : Bool) (huv : u = true → v = true) : areaM r a b u ≤ areaM r c d v := by
  unfold areaM
  cases r
  · exact mul_le h0 h1 h2 h3
  · have h4 := mul_le h0 h1 h0 h1
    have h5 := Int.mul_nonneg h0 h0
    cases u <;> cases v <;> simp at huv ⊢ <;> omega
theorem area_nonneg {r : Bool} {a b : Int} (h0 : 0 ≤ a) (h2 : 0 ≤ b) (u : Bool) : 0 ≤ areaM r a b u := by
  unfold areaM
  have h4 := Int.mul_nonneg h0 h0
  have h5 := Int.mul_nonneg h0 h2
  cases r
  · exact h5
  · cases u <;> simp <;> omega
theorem area_small {r : Bool} {a b : Int} (h0 : 0 ≤ a) (h1 : a ≤ 20000) (h2 : 0 ≤ b) (h3 : b ≤ 20000) (u : Bool) : areaM r a b u ≤ 400000000 := by
  unfold areaM
  have h4 := mul_le h0 h1 h0 h1
  have h5 := mul_le h0 h1 h2 h3
  cases r
  · simp; omega
  · cases u <;> simp <;> omega
theorem area_pos {r : Bool} {a b : Int} (h0 : 1 ≤ a) (h1 : r = false → 1 ≤ b) : 1 ≤ areaM r a b true := by
  unfold areaM
  have h4 := mul_le (a := 1) (b := 1) (by omega) h0 (by omega) h0
  cases r
  · have := mul_le (a := 1) (b := 1) (by omega) h0 (by omega) (h1 rfl)
    simp; omega
  · simp; omega
/-- Sides of a section that may be, at a height of it. -/
theorem sideOf_in {s : Sec} (h : secOk s = true) (t : Int) (up : Bool) : 0 ≤ (sideOf s t up).1 ∧ (sideOf s t up).1 ≤ 20000 ∧ 0 ≤ (sideOf s t up).2 ∧ (sideOf s t up).2 ≤ 20000 := by
  obtain ⟨h1, h2, h3, h4, h5, h6, h7, h8, h9, h10, _⟩ := secOk_all h
  rw [sideOf_ok h]
  obtain ⟨_, _, f1, f2⟩ := side_fits h3 h4 (by omega) h6 (show 0 ≤ min (max t 0) s.h by omega) (by omega) h1 up
  obtain ⟨_, _, g1, g2⟩ := side_fits h7 h8 h9 h10 (show 0 ≤ min (max t 0) s.h by omega) (by omega) h1 up
  refine ⟨by simp only; omega, by simp only; omega, ?_, ?_⟩
  · cases s.r <;> simp <;> omega
  · cases s.r <;> simp <;> omega
theorem sideOf_ways {s : Sec} (h : secOk s = true) (t : Int) : (sideOf s t false).1 ≤ (sideOf s t true).1 ∧ (sideOf s t false).2 ≤ (sideOf s t true).2 := by
  obtain ⟨h1, h2, h3, h4, h5, h6, h7, h8, h9, h10, _⟩ := secOk_all h
  rw [sideOf_ok h, sideOf_ok h]
  have f := side_ways h3 h4 (by omega) h6 (show 0 ≤ min (max t 0) s.h by omega) (by omega) h1
  have g := side_ways h7 h8 h9 h10 (show 0 ≤ min (max t 0) s.h by omega) (by omega) h1
  refine ⟨f.1, ?_⟩
  cases s.r <;> simp <;> omega
/-- Above its bottom a side that opens is there. -/
theorem side_pos {x0 x1 t h : Int} (a0 : 0 ≤ x0) (b0 : x0 ≤ 20000) (a1 : 1 ≤ x1) (b1 : x1 ≤ 20000) (h0 : 1 ≤ t) (h1 : t ≤ h) : 1 ≤ sideM x0 x1 t h true := by
  obtain ⟨_, e, _, _⟩ := side_fits a0 b0 (show 0 ≤ x1 by omega) b1 (show 0 ≤ t by omega) h1 (by omega) true
  unfold sideM
  rw [e, mq_pos _ _ _ (by omega)]
  have hq : (x1 - x0) * t ≤ mdQ ((x1 - x0) * t) h true * h := by
    unfold mdQ
    simp only [if_true]
    have := Int.ediv_mul_le (-((x1 - x0) * t)) (show h ≠ 0 by omega)
    rw [Int.neg_mul]
    omega
  generalize mdQ ((x1 - x0) * t) h true = q at *
  by_cases c : 1 ≤ x0 + q
  · exact c
  · exfalso
    have h2 : q * h ≤ (-x0) * h := Int.mul_le_mul_of_nonneg_right (by omega) (by omega)
    have h3 : (x1 - x0) * t + x0 * h = x1 * t + x0 * (h - t) := by rw [Int.sub_mul, Int.mul_sub]; omega
    have h4 : 1 * 1 ≤ x1 * t := mul_le (by omega) a1 (by omega) h0
    have h5 : 0 ≤ x0 * (h - t) := Int.mul_nonneg a0 (by omega)
    rw [Int.neg_mul] at h2
    omega
theorem sideOf_pos {s : Sec} (h : secOk s = true) (t : Int) (ht : 1 ≤ t) : 1 ≤ (sideOf s t true).1 ∧ (s.r = false → 1 ≤ (sideOf s t true).2) := by
  obtain ⟨h1, h2, h3, h4, h5, h6, h7, h8, h9, h10, _⟩ := secOk_all h
  rw [sideOf_ok h]
  refine ⟨side_pos h3 h4 h5 h6 (by omega) (by omega), fun hr => ?_⟩
  have hb1 : 1 ≤ s.b1 := by
    unfold secOk at h
    rw [hr] at h
    simp only [Bool.and_eq_true, decide_eq_true_eq, inB_iff] at h
    have := h.2
    simp [inB_iff] at this
    omega
  simp [hr]
  exact side_pos h7 h8 hb1 h10 (by omega) (by omega)
/-- Both bounds of a slice. -/
theorem slice_bounds {s : Sec} (h : secOk s = true) (t : Int) (ht : 0 ≤ t) : 0 ≤ lowA s t ∧ lowA s t ≤ highA s t ∧ 1 ≤ highA s t ∧ highA s t ≤ 400000000 := by
  obtain ⟨a1, a2, a3, a4⟩ := sideOf_in h t false
  obtain ⟨b1, b2, b3, b4⟩ := sideOf_in h (t + 100) false
  obtain ⟨c1, c2, c3, c4⟩ := sideOf_in h t true
  obtain ⟨d1, d2, d3, d4⟩ := sideOf_in h (t + 100) true
  obtain ⟨e1, e2⟩ := sideOf_ways h t
  obtain ⟨f1, f2⟩ := sideOf_pos h (t + 100) (by omega)
  unfold lowA highA
  refine ⟨area_nonneg (by omega) (by omega) _, area_le (by omega) (by omega) (by omega) (by omega) _ _ (by simp), area_pos (by omega) (fun hr => by have := f2 hr; omega), area_small (by omega) (by omega) (by omega) (by omega) _⟩
/-- Bounds of slices as they may be. -/
structure Bnd (x : Int × Int) : Prop where
  a : 0 ≤ x.1
  b : x.1 ≤ x.2
  c : 1 ≤ x.2
  d : x.2 ≤ 40000000000
theorem slOf_bnd {s : Sec} (h : secOk s = true) : ∀ x ∈ slOf s, Bnd x := by
  intro x hx
  unfold slOf at hx
  obtain ⟨j, _, rfl⟩ := List.mem_map.1 hx
  obtain ⟨a, b, c, d⟩ := slice_bounds h (100 * (j : Int)) (by omega)
  exact ⟨by simp only; omega, by simp only; omega, by simp only; omega, by simp only; omega⟩
theorem slAll_bnd {l : List Sec} (h : ∀ s ∈ l, secOk s = true) : ∀ x ∈ slAll l, Bnd x := by
  intro x hx
  obtain ⟨s, hs, hx⟩ := List.mem_flatMap.1 hx
  exact slOf_bnd (h s hs) x hx
theorem lowT_succ (L : List (Int × Int)) (k : Nat) (x : Int × Int) (h : L[k]? = some x) : lowT L (k + 1) = lowT L k + x.1 := by
  unfold lowT
  rw [List.take_add_one, h]
  simp
theorem highT_succ (L : List (Int × Int)) (k : Nat) (x : Int × Int) (h : L[k]? = some x) : highT L (k + 1) = highT L k + x.2 := by
  unfold highT
  rw [List.take_add_one, h]
  simp
/-- The bounds of a table, all that the laws ask. -/
theorem table_bnd {L : List (Int × Int)} (h : ∀ x ∈ L, Bnd x) : ∀ k : Nat, 0 ≤ lowT L k ∧ lowT L k ≤ highT L k ∧ highT L k ≤ 40000000000 * (k : Int)
  | 0 => by simp [lowT, highT]
  | k + 1 => by
    have ih := table_bnd h k
    cases hg : L[k]? with
    | none =>
      have e : L.take (k + 1) = L.take k := by rw [List.take_add_one, hg]; simp
      unfold lowT highT at *
      rw [e]
      omega
    | some x =>
      obtain ⟨a, b, c, d⟩ := h x (List.mem_of_getElem? hg)
      rw [lowT_succ L k x hg, highT_succ L k x hg]
      omega
/-- Two pieces one above the other. -/
theorem slAll_append (l m : List Sec) : slAll (l ++ m) = slAll l ++ slAll m := by
  unfold slAll
  rw [List.flatMap_append]
theorem lowT_left (L M : List (Int × Int)) (i : Nat) (h : i ≤ L.length) : lowT (L ++ M) i = lowT L i := by
  unfold lowT
  rw [List.take_append_of_le_length h]
/-- How many slices there are: the height by a slice's. -/
theorem slOf_len (s : Sec) : (slOf s).length = (s.h / 100).toNat := by simp [slOf]
theorem secOk_mod {s : Sec} (h : secOk s = true) : s.h % 100 = 0 := by
  unfold secOk at h
  simp only [Bool.and_eq_true, decide_eq_true_eq] at h
  have h1 := h.1.1.1.1.1
  have h2 := h.1.1.1.2
  rwa [Int.tmod_eq_emod_of_nonneg (by omega)] at h2
theorem slAll_len : ∀ (l : List Sec), (∀ s ∈ l, secOk s = true) → 100 * ((slAll l).length : Int) = hsumI l l.length
  | [], _ => by simp [slAll, hsumI]
  | s :: l, h => by
    have ih := slAll_len l (fun x hx => h x (List.mem_cons_of_mem _ hx))
    have h0 := h s List.mem_cons_self
    have h1 := secOk_h s h0
    have h2 := secOk_mod h0
    have e : hsumI (s :: l) (s :: l).length = s.h + hsumI l l.length := by
      unfold hsumI
      rw [List.take_length, List.take_length, List.foldl_cons]
      have : ∀ (m : List Sec) (a : Int), m.foldl (fun t x => t + x.h) a = a + m.foldl (fun t x => t + x.h) 0 := by
        intro m
        induction m with
        | nil => simp
        | cons y m ih => intro a; rw [List.foldl_cons, List.foldl_cons, ih, ih (0 + y.h)]; omega
      rw [this]; omega
    have e2 : (slAll (s :: l)).length = (s.h / 100).toNat + (slAll l).length := by
      show (slOf s ++ slAll l).length = _
      rw [List.length_append, slOf_len]
    rw [e, e2]
    omega
/-- A shape whose first sides are greater. -/
def Sec.wide (d : Int) (s : Sec) : Sec := ⟨s.r, s.h, s.a0 + d, s.b0, s.a1 + d, s.b1⟩
inductive AllLe : List (Int × Int) → List (Int × Int) → Prop
  | nil : AllLe [] []
  | cons {x y : Int × Int} {L M : List (Int × Int)} (h1 : x.1 ≤ y.1) (h2 : x.2 ≤ y.2) (h : AllLe L M) : AllLe (x :: L) (y :: M)
theorem AllLe.append {L M L' M' : List (Int × Int)} (h : AllLe L M) (h' : AllLe L' M') : AllLe (L ++ L') (M ++ M') := by
  induction h with
  | nil => exact h'
  | cons h1 h2 _ ih => exact .cons h1 h2 ih
theorem AllLe.map {α : Type} (f g : α → Int × Int) (h : ∀ a, (f a).1 ≤ (g a).1 ∧ (f a).2 ≤ (g a).2) : ∀ l : List α, AllLe (l.map f) (l.map g)
  | [] => .nil
  | a :: l => .cons (h a).1 (h a).2 (AllLe.map f g h l)
theorem AllLe.sums {L M : List (Int × Int)} (h : AllLe L M) : ∀ k, lowT L k ≤ lowT M k ∧ highT L k ≤ highT M k := by
  induction h with
  | nil => intro k; simp [lowT, highT]
  | cons h1 h2 _ ih =>
    intro k
    cases k with
    | zero => simp [lowT, highT]
    | succ k =>
      have := ih k
      unfold lowT highT at *
      simp only [List.take_succ_cons, List.map_cons, List.sum_cons]
      omega
end Go.Proofs.Ytnmcgleanpdlmaa

namespace Go.Proofs.Ytnmcgleanpdlmaa
open Go.RowKit
/-- The cells of the sums of bounds: the lower ones, the upper ones. -/
def lowCells (M : List (Int × Int)) : List Value := (List.range (M.length + 1)).map fun k => Value.int .i64 (lowT M k)
def highCells (M : List (Int × Int)) : List Value := (List.range (M.length + 1)).map fun k => Value.int .i64 (highT M k)
theorem lowCells_len (M : List (Int × Int)) : (lowCells M).length = M.length + 1 := by simp [lowCells]
theorem highCells_len (M : List (Int × Int)) : (highCells M).length = M.length + 1 := by simp [highCells]
theorem lowCells_get (M : List (Int × Int)) (k : Nat) (h : k ≤ M.length) : (lowCells M)[k]? = some (.int .i64 (lowT M k)) := by
  unfold lowCells
  rw [List.getElem?_map, List.getElem?_range (by omega)]
  rfl
theorem highCells_get (M : List (Int × Int)) (k : Nat) (h : k ≤ M.length) : (highCells M)[k]? = some (.int .i64 (highT M k)) := by
  unfold highCells
  rw [List.getElem?_map, List.getElem?_range (by omega)]
  rfl
theorem lowT_prefix (M : List (Int × Int)) (x : Int × Int) (k : Nat) (h : k ≤ M.length) : lowT (M ++ [x]) k = lowT M k := lowT_left M [x] k h
theorem highT_prefix (M : List (Int × Int)) (x : Int × Int) (k : Nat) (h : k ≤ M.length) : highT (M ++ [x]) k = highT M k := by
  unfold highT
  rw [List.take_append_of_le_length h]
theorem lowCells_snoc (M : List (Int × Int)) (x : Int × Int) : lowCells (M ++ [x]) = lowCells M ++ [.int .i64 (lowT M M.length + x.1)] := by
  have e1 : lowT (M ++ [x]) (M.length + 1) = lowT M M.length + x.1 := by
    rw [lowT_succ _ _ x (by simp), lowT_prefix _ _ _ (Nat.le_refl _)]
  unfold lowCells
  rw [List.length_append, List.length_singleton, List.range_succ, List.map_append, List.map_singleton, e1]
  congr 1
  exact List.map_congr_left fun k hk => by rw [lowT_prefix _ _ _ (by have := List.mem_range.1 hk; omega)]
theorem highCells_snoc (M : List (Int × Int)) (x : Int × Int) : highCells (M ++ [x]) = highCells M ++ [.int .i64 (highT M M.length + x.2)] := by
  have e1 : highT (M ++ [x]) (M.length + 1) = highT M M.length + x.2 := by
    rw [highT_succ _ _ x (by simp), highT_prefix _ _ _ (Nat.le_refl _)]
  unfold highCells
  rw [List.length_append, List.length_singleton, List.range_succ, List.map_append, List.map_singleton, e1]
  congr 1
  exact List.map_congr_left fun k hk => by rw [highT_prefix _ _ _ (by have := List.mem_range.1 hk; omega)]
theorem own_block {w w' : World} {B e sz g n c : Nat} {xs : List Value} (h : w.ownsRow B e sz (.slice (some ⟨g, 0, none⟩) n c) n xs) (hb : w'.heap[g]? = w.heap[g]?) : w'.ownsRow B e sz (.slice (some ⟨g, 0, none⟩) n c) n xs := by
  obtain ⟨h1, h0 | ⟨g', cap, cur, hv, h2, h3, r⟩⟩ := h
  · exact ⟨h1, .inl h0⟩
  · simp only [Value.slice.injEq, Option.some.injEq, Addr.mk.injEq] at hv
    obtain ⟨⟨rfl, _⟩, _, rfl⟩ := hv
    exact ⟨h1, .inr ⟨g, c, cur, rfl, h2, hb.trans h3, r⟩⟩
/-- A field of a struct in memory holds a slice that the call owns. -/
structure Half (w : World) (BB bt off e g c : Nat) (xs : List Value) : Prop where
  cell : w.cell? ⟨bt, off, none⟩ = some (.slice (some ⟨g, 0, none⟩) xs.length c)
  fz : w.frozen? ⟨bt, off, none⟩ = false
  own : w.ownsRow BB e 1 (.slice (some ⟨g, 0, none⟩) xs.length c) xs.length xs
  ne : g ≠ bt
  lo : BB ≤ bt
theorem Half.glt {w : World} {BB bt off e g c : Nat} {xs : List Value} (h : Half w BB bt off e g c xs) : BB ≤ g ∧ g < w.heap.size := h.own.lt g rfl
theorem Half.blt {w : World} {BB bt off e g c : Nat} {xs : List Value} (h : Half w BB bt off e g c xs) : bt < w.heap.size := World.block_lt_of_cell? w _ h.cell
theorem Half.blocks {w w' : World} {BB bt off e g c : Nat} {xs : List Value} (h : Half w BB bt off e g c xs) (h1 : w'.heap[bt]? = w.heap[bt]?) (h2 : w'.heap[g]? = w.heap[g]?) : Half w' BB bt off e g c xs :=
  ⟨(World.cell?_of_block (a := ⟨bt, off, none⟩) h1).trans h.cell, (World.frozen?_of_block (a := ⟨bt, off, none⟩) h1).trans h.fz, own_block h.own h2, h.ne, h.lo⟩
theorem Half.keepB {w w' : World} {BB bt off e g c : Nat} {xs : List Value} (h : Half w BB bt off e g c xs) (q : B w w') : Half w' BB bt off e g c xs :=
  h.blocks (q.below.block _ h.blt) (q.below.block _ h.glt.2)
theorem Half.grown {w w' : World} {BB bt off e g c g2 : Nat} {xs : List Value} (h : Half w BB bt off e g c xs) (q : w.grownBy w' (some g2)) (hg : g ≠ g2) (hb : bt ≠ g2) : Half w' BB bt off e g c xs :=
  h.blocks (q.block _ h.blt (by simpa using hb)) (q.block _ h.glt.2 (by simpa using hg))
theorem Half.other {w : World} {BB bt off e g c : Nat} {xs : List Value} (h : Half w BB bt off e g c xs) (off2 : Nat) (hne : off2 ≠ off) (v : Value) : Half (w.setCell ⟨bt, off2, none⟩ v) BB bt off e g c xs :=
  ⟨(World.cell?_setCell_other w ⟨bt, off2, none⟩ ⟨bt, off, none⟩ v (fun e => hne (congrArg Addr.off e))).trans h.cell, (World.frozen?_setCell w _ _ v).trans h.fz, own_block h.own (Below.heap_setCell w ⟨bt, off2, none⟩ v g h.ne), h.ne, h.lo⟩
/-- It has grown, and the field holds it. -/
theorem Half.put {w : World} {BB bt off e g c : Nat} {xs : List Value} (h : w.ownsRow BB e 1 (.slice (some ⟨g, 0, none⟩) xs.length c) xs.length xs) {u : Value} (hc : w.cell? ⟨bt, off, none⟩ = some u) (hf : w.frozen? ⟨bt, off, none⟩ = false) (hne : g ≠ bt) (hlo : BB ≤ bt) :
    Half (w.setCell ⟨bt, off, none⟩ (.slice (some ⟨g, 0, none⟩) xs.length c)) BB bt off e g c xs :=
  ⟨World.cell?_setCell_same w ⟨bt, off, none⟩ _ hc, (World.frozen?_setCell w _ _ _).trans hf, own_block h (Below.heap_setCell w ⟨bt, off, none⟩ _ g hne), hne, hlo⟩
theorem alloc_size (w : World) (o : Obj) : (w.alloc o).heap.size = w.heap.size + 1 := by
  show (w.heap.push o).size = _
  simp
/-- A table of no slices, just made: two rows of one nought, the struct that holds them. -/
theorem table_start (W : World) (BB e t : Nat) (hB : BB ≤ W.heap.size) :
    Half (((W.alloc (.cells #[.int .i64 0] e)).alloc (.cells #[.int .i64 0] e)).alloc (.cells #[.slice (some ⟨W.heap.size, 0, none⟩) 1 1, .slice (some ⟨W.heap.size + 1, 0, none⟩) 1 1] t)) BB (W.heap.size + 1 + 1) 0 e W.heap.size 1 (lowCells []) ∧
    Half (((W.alloc (.cells #[.int .i64 0] e)).alloc (.cells #[.int .i64 0] e)).alloc (.cells #[.slice (some ⟨W.heap.size, 0, none⟩) 1 1, .slice (some ⟨W.heap.size + 1, 0, none⟩) 1 1] t)) BB (W.heap.size + 1 + 1) 1 e (W.heap.size + 1) 1 (highCells []) := by
  have o1 := (World.ownsRow_lit W #[.int .i64 0] 1 (base := BB) (e := e) (size := 1) hB (by decide) rfl).alloc (.cells #[.int .i64 0] e)
  have o2 := World.ownsRow_lit (W.alloc (.cells #[.int .i64 0] e)) #[.int .i64 0] 1 (base := BB) (e := e) (size := 1) (by rw [alloc_size]; omega) (by decide) rfl
  rw [alloc_size] at o2
  have hs : ((W.alloc (.cells #[.int .i64 0] e)).alloc (.cells #[.int .i64 0] e)).heap.size = W.heap.size + 1 + 1 := by rw [alloc_size, alloc_size]
  generalize (W.alloc (.cells #[.int .i64 0] e)).alloc (.cells #[.int .i64 0] e) = W3 at *
  have c := fun (k : Nat) => World.cell?_alloc_new W3 #[.slice (some ⟨W.heap.size, 0, none⟩) 1 1, .slice (some ⟨W.heap.size + 1, 0, none⟩) 1 1] t k
  have f := fun (k : Nat) => World.frozen?_alloc_new W3 #[.slice (some ⟨W.heap.size, 0, none⟩) 1 1, .slice (some ⟨W.heap.size + 1, 0, none⟩) 1 1] t k
  rw [hs] at c f
  exact ⟨⟨c 0, f 0, o1.alloc _, by omega, by omega⟩, ⟨c 1, f 1, o2.alloc _, by omega, by omega⟩⟩
/-- A table: sums of bounds lie there. -/
def RTab (w : World) (p : Value) (L : List (Int × Int)) : Prop :=
  ∃ b aL cL aH cH, p = .pointer (some ⟨b, 0, none⟩) ∧ w.cell? ⟨b, 0, none⟩ = some (.slice (some aL) (L.length + 1) cL) ∧ w.cell? ⟨b, 1, none⟩ = some (.slice (some aH) (L.length + 1) cH) ∧
    (∀ k, k ≤ L.length → w.cell? (aL.add k) = some (.int .i64 (lowT L k))) ∧ (∀ k, k ≤ L.length → w.cell? (aH.add k) = some (.int .i64 (highT L k)))
theorem RTab.keepB {w w' : World} {p : Value} {L : List (Int × Int)} (h : RTab w p L) (q : B w w') : RTab w' p L := by
  obtain ⟨b, aL, cL, aH, cH, h0, h1, h2, h3, h4⟩ := h
  exact ⟨b, aL, cL, aH, cH, h0, q.keep h1, q.keep h2, fun k hk => q.keep (h3 k hk), fun k hk => q.keep (h4 k hk)⟩
theorem rtab_of {w : World} {BB bt e g1 c1 g2 c2 : Nat} {L : List (Int × Int)} (h1 : Half w BB bt 0 e g1 c1 (lowCells L)) (h2 : Half w BB bt 1 e g2 c2 (highCells L)) : RTab w (.pointer (some ⟨bt, 0, none⟩)) L := by
  refine ⟨bt, ⟨g1, 0, none⟩, c1, ⟨g2, 0, none⟩, c2, rfl, ?_, ?_, ?_, ?_⟩
  · have := h1.cell; rwa [lowCells_len] at this
  · have := h2.cell; rwa [highCells_len] at this
  · intro k hk
    exact h1.own.cells rfl k _ (lowCells_get L k hk)
  · intro k hk
    exact h2.own.cells rfl k _ (highCells_get L k hk)
theorem rtab_held {w : World} {BB bt e g1 c1 g2 c2 : Nat} {L : List (Int × Int)} (h1 : Half w BB bt 0 e g1 c1 (lowCells L)) (h2 : Half w BB bt 1 e g2 c2 (highCells L)) : Held (fun w => RTab w (.pointer (some ⟨bt, 0, none⟩)) L) BB w.heap.size w := by
  have b1 := h1.glt
  have b2 := h2.glt
  have b3 := h1.blt
  have b4 := h1.lo
  have main : ∀ w' : World, (∀ i, BB ≤ i → i < w.heap.size → w'.heap[i]? = w.heap[i]?) → RTab w' (.pointer (some ⟨bt, 0, none⟩)) L := fun w' hb =>
    rtab_of (h1.blocks (hb bt b4 b3) (hb g1 b1.1 b1.2)) (h2.blocks (hb bt b4 b3) (hb g2 b2.1 b2.2))
  exact ⟨main w fun _ _ _ => rfl, Nat.le_refl _, main⟩
end Go.Proofs.Ytnmcgleanpdlmaa

namespace Go.Proofs.Ytnmcgleanpdlmaa
open Go.RowKit
theorem own_keep {w w' : World} {B e sz n : Nat} {v : Value} {xs : List Value} (h : w.ownsRow B e sz v n xs) (hb : ∀ g, v.ownBlock = some g → w'.heap[g]? = w.heap[g]?) : w'.ownsRow B e sz v n xs := by
  obtain ⟨h1, h0 | ⟨g, cap, cur, rfl, h2, h3, r⟩⟩ := h
  · exact ⟨h1, .inl h0⟩
  · exact ⟨h1, .inr ⟨g, cap, cur, rfl, h2, (hb g rfl).trans h3, r⟩⟩
theorem cell_set {w : World} {b : Nat} {cs : Array Value} {t : TypeId} {fz : Nat × Nat} (h : w.heap[b]? = some (.cells cs t fz)) (k : Nat) (v : Value) : (w.setCell ⟨b, k, none⟩ v).heap[b]? = some (.cells (cs.setIfInBounds k v) t fz) := by
  simp [World.setCell, Array.getElem?_modify, h]
/-- A field of a struct in memory holds a slice that the call owns, or none. -/
structure Fld (w : World) (BB bt off e : Nat) (v : Value) (xs : List Value) : Prop where
  cell : w.cell? ⟨bt, off, none⟩ = some v
  fz : w.frozen? ⟨bt, off, none⟩ = false
  own : w.ownsRow BB e 1 v xs.length xs
  ne : v.ownBlock ≠ some bt
  lo : BB ≤ bt
  ob : ∃ cs t, w.heap[bt]? = some (.cells cs t (0, 0))
theorem Fld.blt {w : World} {BB bt off e : Nat} {v : Value} {xs : List Value} (h : Fld w BB bt off e v xs) : bt < w.heap.size := World.block_lt_of_cell? w _ h.cell
theorem Fld.blocks {w w' : World} {BB bt off e : Nat} {v : Value} {xs : List Value} (h : Fld w BB bt off e v xs) (h1 : w'.heap[bt]? = w.heap[bt]?) (h2 : ∀ g, v.ownBlock = some g → w'.heap[g]? = w.heap[g]?) : Fld w' BB bt off e v xs :=
  ⟨(World.cell?_of_block (a := ⟨bt, off, none⟩) h1).trans h.cell, (World.frozen?_of_block (a := ⟨bt, off, none⟩) h1).trans h.fz, own_keep h.own h2, h.ne, h.lo, by obtain ⟨cs, t, ho⟩ := h.ob; exact ⟨cs, t, h1.trans ho⟩⟩
theorem Fld.keepB {w w' : World} {BB bt off e : Nat} {v : Value} {xs : List Value} (h : Fld w BB bt off e v xs) (q : B w w') : Fld w' BB bt off e v xs :=
  h.blocks (q.below.block _ h.blt) (fun g hg => q.below.block _ (h.own.lt g hg).2)
theorem Fld.grown {w w' : World} {BB bt off e : Nat} {v : Value} {xs : List Value} {row : Option Nat} (h : Fld w BB bt off e v xs) (q : w.grownBy w' row) (hb : some bt ≠ row) (hg : ∀ g, v.ownBlock = some g → some g ≠ row) : Fld w' BB bt off e v xs :=
  h.blocks (q.block _ h.blt hb) (fun g hg' => q.block _ (h.own.lt g hg').2 (hg g hg'))
theorem Fld.other {w : World} {BB bt off e : Nat} {v : Value} {xs : List Value} (h : Fld w BB bt off e v xs) (off2 : Nat) (hne : off2 ≠ off) (u : Value) : Fld (w.setCell ⟨bt, off2, none⟩ u) BB bt off e v xs :=
  ⟨(World.cell?_setCell_other w ⟨bt, off2, none⟩ ⟨bt, off, none⟩ u (fun e => hne (congrArg Addr.off e))).trans h.cell, (World.frozen?_setCell w _ _ u).trans h.fz, own_keep h.own (fun g hg => Below.heap_setCell w ⟨bt, off2, none⟩ u g (fun e => h.ne (by rw [hg, e]))), h.ne, h.lo, by obtain ⟨cs, t, ho⟩ := h.ob; exact ⟨_, t, cell_set ho off2 u⟩⟩
/-- It has grown, and the field holds it. -/
theorem Fld.put {w : World} {BB bt off e n : Nat} {v : Value} {xs : List Value} (hl : xs.length = n) (h : w.ownsRow BB e 1 v n xs) {u : Value} (hc : w.cell? ⟨bt, off, none⟩ = some u) (hf : w.frozen? ⟨bt, off, none⟩ = false) (hne : v.ownBlock ≠ some bt) (hlo : BB ≤ bt) (ho : ∃ cs t, w.heap[bt]? = some (.cells cs t (0, 0))) :
    Fld (w.setCell ⟨bt, off, none⟩ v) BB bt off e v xs :=
  ⟨World.cell?_setCell_same w ⟨bt, off, none⟩ _ hc, (World.frozen?_setCell w _ _ _).trans hf, hl ▸ own_keep h (fun g hg => Below.heap_setCell w ⟨bt, off, none⟩ _ g (fun e => hne (by rw [hg, e]))), hne, hlo, by obtain ⟨cs, t, ho⟩ := ho; exact ⟨_, t, cell_set ho off v⟩⟩
/-- Both fields: rows apart from one another, and from a block that is to stay (xb). -/
structure Two (w : World) (BB bt e : Nat) (v u : Value) (xs ys : List Value) (xb : Nat) : Prop where
  l : Fld w BB bt 1 e v xs
  h : Fld w BB bt 2 e u ys
  ap : ∀ g, v.ownBlock = some g → u.ownBlock ≠ some g
  xv : v.ownBlock ≠ some xb
  xu : u.ownBlock ≠ some xb
  xt : xb ≠ bt
theorem Two.keepB {w w' : World} {BB bt e xb : Nat} {v u : Value} {xs ys : List Value} (h : Two w BB bt e v u xs ys xb) (q : B w w') : Two w' BB bt e v u xs ys xb :=
  ⟨h.l.keepB q, h.h.keepB q, h.ap, h.xv, h.xu, h.xt⟩
/-- Another block is to stay. -/
theorem Two.stay {w : World} {BB bt e xb : Nat} {v u : Value} {xs ys : List Value} (h : Two w BB bt e v u xs ys xb) (yb : Nat) (hy : w.heap.size ≤ yb) : Two w BB bt e v u xs ys yb :=
  ⟨h.l, h.h, h.ap, fun e => by have := (h.l.own.lt _ e).2; omega, fun e => by have := (h.h.own.lt _ e).2; omega, by have := h.l.blt; omega⟩
/-- The code's table: sums of bounds lie there, one a slice. -/
def CTab (w : World) (p : Value) (L : List (Int × Int)) : Prop :=
  ∃ b aL cL aH cH, 1 ≤ L.length ∧ p = .pointer (some ⟨b, 0, none⟩) ∧ w.cell? ⟨b, 0, none⟩ = some (.int .i64 (L.length * 100)) ∧ w.cell? ⟨b, 1, none⟩ = some (.slice (some aL) L.length cL) ∧ w.cell? ⟨b, 2, none⟩ = some (.slice (some aH) L.length cH) ∧
    (∀ k, k < L.length → w.cell? (aL.add k) = some (.int .i64 (lowT L (k + 1)))) ∧ (∀ k, k < L.length → w.cell? (aH.add k) = some (.int .i64 (highT L (k + 1))))
theorem CTab.keepB {w w' : World} {p : Value} {L : List (Int × Int)} (h : CTab w p L) (q : B w w') : CTab w' p L := by
  obtain ⟨b, aL, cL, aH, cH, hn, h0, hh, h1, h2, h3, h4⟩ := h
  exact ⟨b, aL, cL, aH, cH, hn, h0, q.keep hh, q.keep h1, q.keep h2, fun k hk => q.keep (h3 k hk), fun k hk => q.keep (h4 k hk)⟩
end Go.Proofs.Ytnmcgleanpdlmaa

namespace Go.Proofs.Ytnmcgleanpdlmaa
open Go.RowKit
/-- A table that lies in blocks from lo up to hi alone. -/
structure TabN (T : World → Value → List (Int × Int) → Prop) (lo hi : Nat) (w : World) (p : Value) (L : List (Int × Int)) : Prop where
  held : Held (fun w => T w p L) lo hi w
  at_ : ∃ b, p = .pointer (some ⟨b, 0, none⟩) ∧ lo ≤ b ∧ b < hi
  ob : ∀ b, p = .pointer (some ⟨b, 0, none⟩) → ∃ cs t, w.heap[b]? = some (.cells cs t (0, 0))
theorem TabN.on {T : World → Value → List (Int × Int) → Prop} {lo hi : Nat} {w w' : World} {p : Value} {L : List (Int × Int)} (h : TabN T lo hi w p L) (hs : w.heap.size ≤ w'.heap.size) (hb : ∀ i, lo ≤ i → i < hi → w'.heap[i]? = w.heap[i]?) : TabN T lo hi w' p L :=
  ⟨h.held.on hs hb, h.at_, fun b e => by
    obtain ⟨cs, t, ho⟩ := h.ob b e
    obtain ⟨b', e', h1, h2⟩ := h.at_
    have : b = b' := by rw [e] at e'; simpa using e'
    exact ⟨cs, t, (hb b (by omega) (by omega)).trans ho⟩⟩
theorem TabN.keepB {T : World → Value → List (Int × Int) → Prop} {lo hi : Nat} {w w' : World} {p : Value} {L : List (Int × Int)} (h : TabN T lo hi w p L) (q : B w w') : TabN T lo hi w' p L :=
  h.on q.below.size fun i _ h2 => q.below.block i (Nat.lt_of_lt_of_le h2 h.held.le)
end Go.Proofs.Ytnmcgleanpdlmaa

namespace Go.Proofs.Ytnmcgleanpdlmaa
open Go.RowKit
/-- Of what was there nothing turns but blocks of S. -/
structure G (S : Nat → Prop) (w w' : World) : Prop where
  os : w'.os = w.os
  tape : w'.tape = w.tape
  output : w'.output = w.output
  size : w.heap.size ≤ w'.heap.size
  block : ∀ i, i < w.heap.size → ¬ S i → w'.heap[i]? = w.heap[i]?
theorem G.refl (S : Nat → Prop) (w : World) : G S w w := ⟨rfl, rfl, rfl, Nat.le_refl _, fun _ _ _ => rfl⟩
theorem G.trans {S : Nat → Prop} {a b c : World} (h : G S a b) (k : G S b c) : G S a c :=
  ⟨k.os.trans h.os, k.tape.trans h.tape, k.output.trans h.output, Nat.le_trans h.size k.size, fun i hi hs => (k.block i (Nat.lt_of_lt_of_le hi h.size) hs).trans (h.block i hi hs)⟩
theorem B.g {w w' : World} (h : B w w') (S : Nat → Prop) : G S w w' := ⟨h.below.os, h.below.tape, h.below.output, h.below.size, fun i hi _ => h.below.block i hi⟩
theorem G.below {S : Nat → Prop} {w w' : World} (h : G S w w') {BB : Nat} (hS : ∀ i, S i → BB ≤ i) (hB : BB ≤ w.heap.size) : Below BB w w' :=
  ⟨h.os, h.tape, h.output, h.size, fun k hk => h.block k (by omega) (fun hs => by have := hS k hs; omega)⟩
theorem G.b {S : Nat → Prop} {W w w' : World} (h : G S w w') (hb : B W w) (hS : ∀ i, S i → W.heap.size ≤ i) : B W w' := ⟨hb.below.trans (h.below hS hb.below.size)⟩
theorem G.mono {S S' : Nat → Prop} {w w' : World} (h : G S w w') (hS : ∀ i, i < w.heap.size → S i → S' i) : G S' w w' :=
  ⟨h.os, h.tape, h.output, h.size, fun i hi hs => h.block i hi (fun h1 => hs (hS i hi h1))⟩
theorem G.drew {S : Nat → Prop} {a w : World} (h : G S a w) : G S a w.drew := ⟨h.os, h.tape, h.output, h.size, h.block⟩
theorem G.alloc {S : Nat → Prop} {a w : World} (h : G S a w) (o : Obj) : G S a (w.alloc o) :=
  h.trans ⟨rfl, rfl, rfl, by simp, fun i hi _ => Below.heap_alloc _ _ _ hi⟩
theorem G.setCell {S : Nat → Prop} {a w : World} (h : G S a w) {p : Addr} (hp : S p.block ∨ a.heap.size ≤ p.block) (v : Value) : G S a (w.setCell p v) :=
  ⟨h.os, h.tape, h.output, by simpa [World.setCell] using h.size, fun i hi hs => by
    rw [Below.heap_setCell w p v i (fun e => by rcases hp with hp | hp; exact hs (e ▸ hp); omega)]
    exact h.block i hi hs⟩
theorem G.grown {S : Nat → Prop} {a w w' : World} {row : Option Nat} (h : G S a w) (g : w.grownBy w' row) (hr : ∀ k, row = some k → S k ∨ a.heap.size ≤ k) : G S a w' :=
  ⟨g.os.trans h.os, g.tape.trans h.tape, g.output.trans h.output, Nat.le_trans h.size g.size, fun i hi hs => by
    rw [g.block i (Nat.lt_of_lt_of_le hi h.size) (fun e => by rcases hr i e.symm with h1 | h1; exact hs h1; omega)]
    exact h.block i hi hs⟩
theorem G.keep {S : Nat → Prop} {w w' : World} (h : G S w w') {p : Addr} {v : Value} (hp : ¬ S p.block) (hc : w.cell? p = some v) : w'.cell? p = some v :=
  (World.cell?_of_block (w := w) (h.block p.block (World.block_lt_of_cell? w p hc) hp)).trans hc
theorem G.obj {S : Nat → Prop} {w w' : World} (h : G S w w') {b : Nat} {o : Obj} (hb : ¬ S b) (ho : w.heap[b]? = some o) : w'.heap[b]? = some o :=
  (h.block b (Array.getElem?_eq_some_iff.1 ho).1 hb).trans ho
theorem G.held {S : Nat → Prop} {T : World → Prop} {lo hi : Nat} {w w' : World} (h : G S w w') (k : Held T lo hi w) (hS : ∀ i, lo ≤ i → i < hi → ¬ S i) : Held T lo hi w' :=
  k.on h.size fun i h1 h2 => h.block i (Nat.lt_of_lt_of_le h2 k.le) (hS i h1 h2)
theorem G.tabN {S : Nat → Prop} {T : World → Value → List (Int × Int) → Prop} {lo hi : Nat} {w w' : World} {p : Value} {L : List (Int × Int)} (h : G S w w') (k : TabN T lo hi w p L) (hS : ∀ i, lo ≤ i → i < hi → ¬ S i) : TabN T lo hi w' p L :=
  k.on h.size fun i h1 h2 => h.block i (Nat.lt_of_lt_of_le h2 k.held.le) (hS i h1 h2)
theorem obj_lt {w : World} {b : Nat} {o : Obj} (h : w.heap[b]? = some o) : b < w.heap.size := (Array.getElem?_eq_some_iff.1 h).1
theorem obj_cell {w : World} {b : Nat} {cs : Array Value} {t : TypeId} {fz : Nat × Nat} (h : w.heap[b]? = some (.cells cs t fz)) (k : Nat) : w.cell? ⟨b, k, none⟩ = cs[k]? := by
  simp [World.cell?, h]
theorem obj_free {w : World} {b : Nat} {cs : Array Value} {t : TypeId} (h : w.heap[b]? = some (.cells cs t (0, 0))) (k : Nat) : w.frozen? ⟨b, k, none⟩ = false := by
  simp [World.frozen?, h]
theorem obj_set {w : World} {b : Nat} {cs : Array Value} {t : TypeId} {fz : Nat × Nat} (h : w.heap[b]? = some (.cells cs t fz)) (k : Nat) (v : Value) : (w.setCell ⟨b, k, none⟩ v).heap[b]? = some (.cells (cs.setIfInBounds k v) t fz) := by
  simp [World.setCell, Array.getElem?_modify, h]
theorem obj_new (w : World) (o : Obj) : (w.alloc o).heap[w.heap.size]? = some o := by
  show (w.heap.push o)[w.heap.size]? = some o
  simp
theorem obj_past {w : World} {b : Nat} {o : Obj} (h : w.heap[b]? = some o) (o' : Obj) : (w.alloc o').heap[b]? = some o :=
  (Below.heap_alloc w o' b (obj_lt h)).trans h
/-- Sections lie in no block of S, if no cell of these is a bool. -/
theorem isSecs_keepG {S : Nat → Prop} {w w' : World} {v : Value} {l : List Sec} (h : IsSecs w v l) (hS : ∀ i, S i → ∀ k r, w.cell? ⟨i, k, none⟩ ≠ some (.bool r)) (q : G S w w') : IsSecs w' v l := by
  rcases h with ⟨rfl, rfl⟩ | ⟨a, cap, rfl, h2, h3, h4⟩
  · exact .inl ⟨rfl, rfl⟩
  · refine .inr ⟨a, cap, rfl, h2, h3, fun i s hs => ⟨(h4 i s hs).1, ?_⟩⟩
    obtain ⟨f0, f1, f2, f3, f4, f5⟩ := (h4 i s hs).2
    have hsp : (a.add (i * 6)).spot = none := by
      cases hsp : (a.add (i * 6)).spot with
      | none => rfl
      | some x =>
        unfold World.cell? at f0
        split at f0
        · simp [hsp] at f0
        · cases f0
    have hb : ¬ S (a.add (i * 6)).block := fun hs' => by
      refine hS _ hs' (a.add (i * 6)).off s.r ?_
      rw [← f0]
      congr 1
      rw [← hsp]
    exact ⟨q.keep hb f0, q.keep hb f1, q.keep hb f2, q.keep hb f3, q.keep hb f4, q.keep hb f5⟩
end Go.Proofs.Ytnmcgleanpdlmaa

namespace Go.Proofs.Ytnmcgleanpdlmaa
open Go.RowKit
structure Rec where
  n : ByteArray
  x : Int
  y : Int
  z : Int
  l : List Sec
def Rec.cells (r : Rec) (v : Value) : List Value := [.string r.n, .int .i64 r.x, .int .i64 r.y, .int .i64 r.z, v]
structure RecAt (w : World) (p : Addr) (r : Rec) : Prop where
  n : w.cell? p = some (.string r.n)
  x : w.cell? ⟨p.block, p.off + 1, none⟩ = some (.int .i64 r.x)
  y : w.cell? ⟨p.block, p.off + 2, none⟩ = some (.int .i64 r.y)
  z : w.cell? ⟨p.block, p.off + 3, none⟩ = some (.int .i64 r.z)
  l : ∃ v, w.cell? ⟨p.block, p.off + 4, none⟩ = some v ∧ IsSecs w v r.l
theorem RecAt.keepB {w w' : World} {p : Addr} {r : Rec} (h : RecAt w p r) (q : B w w') : RecAt w' p r :=
  ⟨q.keep h.n, q.keep h.x, q.keep h.y, q.keep h.z, let ⟨v, h1, h2⟩ := h.l; ⟨v, q.keep h1, h2.keepB q⟩⟩
/-- A slice of them. -/
def IsRecs (w : World) (v : Value) (L : List Rec) : Prop :=
  (v = .slice none 0 0 ∧ L = []) ∨
  ∃ (a : Addr) (cap : Nat), v = .slice (some a) L.length cap ∧ L.length ≤ cap ∧ cap ≤ maxLen ∧ ∀ i r, L[i]? = some r → RecAt w (a.add (i * 5)) r
theorem IsRecs.keepB {w w' : World} {v : Value} {L : List Rec} (h : IsRecs w v L) (q : B w w') : IsRecs w' v L := by
  rcases h with h | ⟨a, cap, h1, h2, h3, h4⟩
  · exact .inl h
  · exact .inr ⟨a, cap, h1, h2, h3, fun i r hr => (h4 i r hr).keepB q⟩
theorem IsRecs.form {w : World} {v : Value} {L : List Rec} (h : IsRecs w v L) : ∃ ao cap, v = .slice ao L.length cap := by
  rcases h with ⟨rfl, rfl⟩ | ⟨a, cap, rfl, _⟩
  · exact ⟨_, _, rfl⟩
  · exact ⟨_, _, rfl⟩
/-- The cells of a row of them; vs: the shapes' slices. -/
def flatR : List Rec → List Value → List Value
  | r :: L, v :: vs => r.cells v ++ flatR L vs
  | _, _ => []
theorem flatR_get : ∀ (L : List Rec) (vs : List Value) (i j : Nat) (r : Rec) (v : Value), L[i]? = some r → vs[i]? = some v → j < 5 → (flatR L vs)[i * 5 + j]? = (r.cells v)[j]?
  | [], _, _, _, _, _, h, _, _ => by simp at h
  | _ :: _, [], _, _, _, _, _, h, _ => by simp at h
  | r :: L, v :: vs, 0, j, r', v', h, h', hj => by
    simp at h h'
    subst h h'
    rw [Nat.zero_mul, Nat.zero_add]
    show (r.cells v ++ flatR L vs)[j]? = _
    rw [List.getElem?_append_left (by simpa [Rec.cells] using hj)]
  | r :: L, v :: vs, i + 1, j, r', v', h, h', hj => by
    show (r.cells v ++ flatR L vs)[(i + 1) * 5 + j]? = _
    rw [List.getElem?_append_right (by simp [Rec.cells]; omega), show (i + 1) * 5 + j - (r.cells v).length = i * 5 + j by simp [Rec.cells]; omega]
    exact flatR_get L vs i j r' v' (by simpa using h) (by simpa using h') hj
theorem flatR_len : ∀ (L : List Rec) (vs : List Value), L.length = vs.length → (flatR L vs).length = L.length * 5
  | [], [], _ => rfl
  | [], _ :: _, h => by simp at h
  | _ :: _, [], h => by simp at h
  | r :: L, v :: vs, h => by
    show (r.cells v ++ flatR L vs).length = _
    rw [List.length_append, flatR_len L vs (by simpa using h), List.length_cons]
    simp [Rec.cells]
    omega
/-- Cells that lie in a row are its records. -/
theorem recs_cells {w : World} {g : Nat} {cap : Nat} {L : List Rec} {vs : List Value} (hv : L.length = vs.length) (h1 : L.length ≤ cap) (h2 : cap ≤ maxLen)
    (hc : ∀ j u, (flatR L vs)[j]? = some u → w.cell? ⟨g, j, none⟩ = some u) (hs : ∀ (i : Nat) (r : Rec) (v : Value), L[i]? = some r → vs[i]? = some v → IsSecs w v r.l) : IsRecs w (.slice (some ⟨g, 0, none⟩) L.length cap) L := by
  refine .inr ⟨⟨g, 0, none⟩, cap, rfl, h1, h2, fun i r hr => ?_⟩
  have hi : i < L.length := (List.getElem?_eq_some_iff.1 hr).1
  obtain ⟨v, hvi⟩ : ∃ v, vs[i]? = some v := ⟨_, List.getElem?_eq_getElem (by omega)⟩
  have k := fun j hj u (hu : (r.cells v)[j]? = some u) => hc (i * 5 + j) u ((flatR_get L vs i j r v hr hvi hj).trans hu)
  rw [add0]
  exact ⟨k 0 (by omega) _ rfl, k 1 (by omega) _ rfl, k 2 (by omega) _ rfl, k 3 (by omega) _ rfl, v, k 4 (by omega) _ rfl, hs i r v hr hvi⟩
theorem recs_own {w : World} {base : Nat} {e : TypeId} {g c k : Nat} {L : List Rec} {vs : List Value} (h : w.ownsRow base e 5 (.slice (some ⟨g, 0, none⟩) k c) k (flatR L vs)) (hk : 0 < k) (hl : L.length = k) (hv : L.length = vs.length)
    (hs : ∀ (i : Nat) (r : Rec) (v : Value), L[i]? = some r → vs[i]? = some v → IsSecs w v r.l) : IsRecs w (.slice (some ⟨g, 0, none⟩) k c) L := by
  have hh := h
  rcases hh.2 with ⟨_, h0⟩ | ⟨g', cap, cur, hg, _, _, h1, h2, _⟩
  · omega
  · simp only [Value.slice.injEq, Option.some.injEq, Addr.mk.injEq] at hg
    obtain ⟨⟨rfl, _⟩, _, rfl⟩ := hg
    subst hl
    exact recs_cells hv h1 h2 (fun j u hj => by have := h.cells rfl j u hj; rwa [add0] at this) hs
theorem IsRecs.at_ {w : World} {v : Value} {L : List Rec} (h : IsRecs w v L) {i : Nat} (hi : i < L.length) : ∃ (a : Addr) (cap : Nat), v = .slice (some a) L.length cap ∧ L.length ≤ cap ∧ cap ≤ maxLen ∧ RecAt w (a.add (i * 5)) L[i] := by
  rcases h with ⟨_, rfl⟩ | ⟨a, cap, h1, h2, h3, h4⟩
  · simp at hi
  · exact ⟨a, cap, h1, h2, h3, h4 i _ (List.getElem?_eq_getElem hi)⟩
/-- What is owned stays, where nothing that was there turns. -/
theorem ownsRow_keepB {w w' : World} {base : Nat} {e : TypeId} {size n : Nat} {v : Value} {xs : List Value} (h : w.ownsRow base e size v n xs) (q : B w w') : w'.ownsRow base e size v n xs :=
  h.kept (row := none) ⟨q.below.os, q.below.tape, q.below.output, q.below.size, fun k hk _ => q.below.block k hk⟩ (by cases v.ownBlock <;> simp)
/-- Slots of a drawn region: shapes in blocks from k on. -/
def SecsV (k : Nat) (l : List Sec) : Value → World → Prop := fun v w => ∃ o n p, v = .slice o n p ∧ IsSecs w (.slice o n p) l ∧ ∀ b, (Value.slice o n p).ownBlock = some b → k ≤ b ∧ b < w.heap.size
theorem slot_secs (k : Nat) (l : List Sec) : Slot.stays (SecsV k l) := fun _ _ _ ⟨o, n, p, h1, h2, h3⟩ q => ⟨o, n, p, h1, h2.keepB q, fun b hb => ⟨(h3 b hb).1, Nat.lt_of_lt_of_le (h3 b hb).2 q.below.size⟩⟩
def RecV (k : Nat) (r : Rec) : Value → World → Prop := fun v w => ∃ o n p, v = .agg #[.string r.n, .int .i64 r.x, .int .i64 r.y, .int .i64 r.z, .slice o n p] ∧ IsSecs w (.slice o n p) r.l ∧ ∀ b, (Value.slice o n p).ownBlock = some b → k ≤ b ∧ b < w.heap.size
theorem slot_rec (k : Nat) (r : Rec) : Slot.stays (RecV k r) := fun _ _ _ ⟨o, n, p, h1, h2, h3⟩ q => ⟨o, n, p, h1, h2.keepB q, fun b hb => ⟨(h3 b hb).1, Nat.lt_of_lt_of_le (h3 b hb).2 q.below.size⟩⟩
def RecRow (k : Nat) (r : Rec) : Value → World → Prop := fun v w => ∃ b o n p, v = .slice (some ⟨b, 0, none⟩) 1 1 ∧ (∀ j u, (r.cells (.slice o n p))[j]? = some u → w.cell? ⟨b, j, none⟩ = some u) ∧ IsSecs w (.slice o n p) r.l ∧ ∀ b, (Value.slice o n p).ownBlock = some b → k ≤ b ∧ b < w.heap.size
theorem slot_recrow (k : Nat) (r : Rec) : Slot.stays (RecRow k r) := fun _ _ _ ⟨b, o, n, p, h1, h2, h3, h4⟩ q => ⟨b, o, n, p, h1, fun j u hj => q.keep (h2 j u hj), h3.keepB q, fun b hb => ⟨(h4 b hb).1, Nat.lt_of_lt_of_le (h4 b hb).2 q.below.size⟩⟩
theorem secs_lt {w : World} {v : Value} {l : List Sec} (h : IsSecs w v l) (hl : 1 ≤ l.length) {b : Nat} (hb : v.ownBlock = some b) : b < w.heap.size := by
  rcases h with ⟨rfl, rfl⟩ | ⟨a, cap, rfl, h2, h3, h4⟩
  · simp at hl
  · have e : a.block = b := Option.some.inj hb
    obtain ⟨s, hs⟩ : ∃ s, l[0]? = some s := ⟨_, List.getElem?_eq_getElem (by omega)⟩
    have := World.block_lt_of_cell? w _ (h4 0 s hs).2.r
    have e2 : (a.add (0 * 6)).block = a.block := by unfold Addr.add; split <;> rfl
    omega
/-- Sections whose block doesn't turn. -/
theorem isSecs_keepOwn {S : Nat → Prop} {w w' : World} {v : Value} {l : List Sec} (h : IsSecs w v l) (hS : ∀ b, v.ownBlock = some b → ¬ S b) (q : G S w w') : IsSecs w' v l := by
  rcases h with ⟨rfl, rfl⟩ | ⟨a, cap, rfl, h2, h3, h4⟩
  · exact .inl ⟨rfl, rfl⟩
  · refine .inr ⟨a, cap, rfl, h2, h3, fun i s hs => ⟨(h4 i s hs).1, ?_⟩⟩
    obtain ⟨f0, f1, f2, f3, f4, f5⟩ := (h4 i s hs).2
    have hb : ¬ S (a.add (i * 6)).block := by
      have e : (a.add (i * 6)).block = a.block := by unfold Addr.add; split <;> rfl
      rw [e]
      exact hS _ rfl
    exact ⟨q.keep hb f0, q.keep hb f1, q.keep hb f2, q.keep hb f3, q.keep hb f4, q.keep hb f5⟩
theorem B.obj {w w' : World} (h : B w w') {b : Nat} {o : Obj} (ho : w.heap[b]? = some o) : w'.heap[b]? = some o :=
  (h.below.block b (Array.getElem?_eq_some_iff.1 ho).1).trans ho
theorem spot_none {w : World} {p : Addr} {s : ByteArray} (h : w.cell? p = some (.string s)) : p.spot = none := by
  cases hsp : p.spot with
  | none => rfl
  | some x =>
    unfold World.cell? at h
    split at h
    · simp [hsp] at h
    · cases h
/-- Records lie in no block of S, if no cell of these is a string or a bool. -/
theorem isRecs_keepG {S : Nat → Prop} {w w' : World} {v : Value} {L : List Rec} (h : IsRecs w v L) (hS : ∀ i, S i → ∀ k, (∀ r, w.cell? ⟨i, k, none⟩ ≠ some (.bool r)) ∧ ∀ s, w.cell? ⟨i, k, none⟩ ≠ some (.string s)) (q : G S w w') : IsRecs w' v L := by
  rcases h with ⟨rfl, rfl⟩ | ⟨a, cap, rfl, h2, h3, h4⟩
  · exact .inl ⟨rfl, rfl⟩
  · refine .inr ⟨a, cap, rfl, h2, h3, fun i r hr => ?_⟩
    obtain ⟨f0, f1, f2, f3, v, f4, f5⟩ := h4 i r hr
    have hsp := spot_none f0
    have hb : ¬ S (a.add (i * 5)).block := fun hs' => by
      refine (hS _ hs' (a.add (i * 5)).off).2 r.n ?_
      rw [← f0]
      congr 1
      rw [← hsp]
    exact ⟨q.keep hb f0, q.keep hb f1, q.keep hb f2, q.keep hb f3, v, q.keep hb f4, isSecs_keepG f5 (fun i hi k r => (hS i hi k).1 r) q⟩
/-- Three cells of one block written. -/
theorem g_three (w : World) (b : Nat) (x y z : Value) : G (fun i => i = b) w (((w.setCell ⟨b, 0, none⟩ x).setCell ⟨b, 1, none⟩ y).setCell ⟨b, 2, none⟩ z) :=
  G.setCell (S := fun i => i = b) (p := ⟨b, 2, none⟩) (G.setCell (S := fun i => i = b) (p := ⟨b, 1, none⟩) (G.setCell (S := fun i => i = b) (p := ⟨b, 0, none⟩) (G.refl _ _) (.inl rfl) _) (.inl rfl) _) (.inl rfl) _
theorem b_three {u w : World} (h : B u w) {b : Nat} (hb : u.heap.size ≤ b) (x y z : Value) : B u (((w.setCell ⟨b, 0, none⟩ x).setCell ⟨b, 1, none⟩ y).setCell ⟨b, 2, none⟩ z) :=
  B.setCell (p := ⟨b, 2, none⟩) (B.setCell (p := ⟨b, 1, none⟩) (B.setCell (p := ⟨b, 0, none⟩) h hb _) hb _) hb _
theorem obj_three {w : World} {b : Nat} {x0 y0 z0 : Value} {t : TypeId} (h : w.heap[b]? = some (.cells #[x0, y0, z0] t (0, 0))) (x y z : Value) :
    (((w.setCell ⟨b, 0, none⟩ x).setCell ⟨b, 1, none⟩ y).setCell ⟨b, 2, none⟩ z).heap[b]? = some (.cells #[x, y, z] t (0, 0)) := by
  have := obj_set (obj_set (obj_set h 0 x) 1 y) 2 z
  simpa using this
end Go.Proofs.Ytnmcgleanpdlmaa
