/-
  Layer 11: what right decks bear; the statements' decks as boards; Contracts of the document's own products (its sums: XRadd); Plain mathematics of a division bit by bit. No program is named here; The contract of the document's own division of 128 bits by 64, bit by bit; The document's own sides of a section at a height.
-/
import Derived.RegionTactic
import Derived.BigRegion
import Derived.ChangeAlike
import Derived.Lib.MinMax
import Derived.Test.YtnmcgleanpdlmaaChecked
import Derived.Lib.Mul64
import Derived.Outline
import Derived.Laws.Strings2
import Derived.Laws.Slices
import Derived.KernelRfl
import Derived.Test.YtnmcgleanpdlmaaY1
import Derived.Test.YtnmcgleanpdlmaaY2
import Derived.Test.YtnmcgleanpdlmaaY3
import Derived.Test.YtnmcgleanpdlmaaY4
import Derived.Test.YtnmcgleanpdlmaaY5
import Derived.Test.YtnmcgleanpdlmaaY6
import Derived.Test.YtnmcgleanpdlmaaY7
import Derived.Test.YtnmcgleanpdlmaaY8
import Derived.Test.YtnmcgleanpdlmaaY9
import Derived.Test.YtnmcgleanpdlmaaY10
import Derived.Test.YtnmcgleanpdlmaaY11
import Derived.Test.YtnmcgleanpdlmaaY12
import Derived.Test.YtnmcgleanpdlmaaY13
namespace Go.Proofs.Ytnmcgleanpdlmaa
open Go.RowKit
set_option linter.unusedVariables false
theorem nameS_sz {n : ByteArray} (h : nameS n = true) : n.size ≤ 16 := by
  unfold nameS at h
  have h16 := of_decide_eq_true (Bool.and_eq_true_iff.1 (Bool.and_eq_true_iff.1 (Bool.and_eq_true_iff.1 h).1).1).2
  omega
theorem indexC_has : ∀ (ws : List Wr) (K : Int) (n : ByteArray) (r c : Int), (indexC ws K n r c).isSome = true → ∃ w ∈ ws, hasB w.n w.x w.y n r c = true
  | [], _, _, _, _, h => by cases h
  | w :: ws, K, n, r, c, h => by
    rw [indexC] at h
    split at h
    · rename_i hh
      exact ⟨w, List.mem_cons_self .., hh⟩
    · obtain ⟨v, hv, e⟩ := indexC_has ws _ n r c h
      exact ⟨v, List.mem_cons_of_mem _ hv, e⟩
/-- What a right deck's names and numbers are. -/
structure Small (d : Dk) : Prop where
  wn : ∀ r ∈ d.ws, r.n.size ≤ maxLen
  wi : ∀ r ∈ d.ws, I64 r.x ∧ I64 r.y
  tn : ∀ r ∈ d.ts, r.n.size ≤ maxLen
  fi : ∀ f ∈ d.fs, f.n.size ≤ maxLen ∧ I64 f.r ∧ I64 f.c
theorem rightD_small {d : Dk} (h : rightD d = true) : Small d := by
  obtain ⟨_, _, pW, pT⟩ := right_parts9 h
  have hw : ∀ r ∈ d.ws, nameS r.n = true ∧ (1 ≤ r.x ∧ r.x ≤ 8) ∧ (1 ≤ r.y ∧ r.y ≤ 12) := fun r hr => by
    obtain ⟨i, hi⟩ := List.getElem?_of_mem hr
    have := (apart_at pW hi).1
    unfold wareOk at this
    simp only [Bool.and_eq_true, inB, decide_eq_true_eq] at this
    exact ⟨this.1.1.1.1, this.1.1.1.2, this.1.1.2⟩
  have ht : ∀ r ∈ d.ts, nameS r.n = true := fun r hr => by
    obtain ⟨i, hi⟩ := List.getElem?_of_mem hr
    have := (apart_at pT hi).1
    unfold tipOk at this
    simp only [Bool.and_eq_true] at this
    exact this.1.1.1.1
  refine ⟨fun r hr => ?_, fun r hr => ?_, fun r hr => ?_, fun f hf => ?_⟩
  · have := nameS_sz (hw r hr).1; unfold maxLen; omega
  · obtain ⟨_, h1, h2⟩ := hw r hr; unfold I64; omega
  · have := nameS_sz (ht r hr); unfold maxLen; omega
  · obtain ⟨i, hi⟩ := List.getElem?_of_mem hf
    obtain ⟨⟨k, hk, _⟩, _⟩ := right_fill h hi
    obtain ⟨w, hwm, hb⟩ := indexC_has d.ws 0 f.n f.r f.c (by rw [hk]; rfl)
    obtain ⟨h1, h2, h3, h4⟩ := hasB_in hb
    obtain ⟨hn, hx, hy⟩ := hw w hwm
    unfold hasB at hb
    simp only [Bool.and_eq_true, beq_iff_eq] at hb
    have e : w.n = f.n := ba_eq hb.1.1
    have := nameS_sz hn
    rw [e] at this
    unfold maxLen I64
    omega
theorem fillsF_len (ws : List Wr) : ∀ (l : List Nat) (i : Nat), (fillsF ws i l).length ≤ l.length
  | [], _ => by simp [fillsF]
  | x :: l, i => by
    have ih := fillsF_len ws l (i + 1)
    unfold fillsF
    split
    · simp; omega
    · split
      · simp; omega
      · simp; omega
theorem dnew_right (wv tv fv : Value) (d : Dk) (w : World) (h : IsDk w wv tv fv d) (hr : rightD d = true) (hf9 : d.fs.length < 1000) :
    Calls Try.prog 16 #[.agg #[wv, tv, fv]] w fun e w' => ∃ (P : Bp) (X : List Th), e = .returned (.tuple #[.pointer (some ⟨P.b, 0, none⟩), .int .i64 0]) ∧ P.d = d ∧ BoardM P w' 0 [] X ∧ w.heap.size ≤ P.lo ∧ P.top = w'.heap.size ∧ B w w' :=
  have s := rightD_small hr
  dnew_yes wv tv fv d w h hr s.wn s.wi s.tn s.fi hf9
theorem BoardM.low {P : Bp} {w : World} {m9 : Nat} {E : List Ent} {X : List Th} (h : BoardM P w m9 E X) : P.lo ≤ P.bm ∧ ∀ i, P.S i → P.lo ≤ i := by
  have h1 := h.lohi
  have h2 := h.hibm
  refine ⟨by omega, fun i hi => ?_⟩
  have := (h.sLow i hi).1
  omega
end Go.Proofs.Ytnmcgleanpdlmaa

namespace Go.Proofs.Ytnmcgleanpdlmaa
open Go.RowKit
theorem amount_any (a : Int) (ha : I64 a) (w : World) :
    Calls Try.prog 86 #[.int .i64 a] w fun e w' => e = .returned (.int .u64 (a.natAbs : Int)) ∧ w = w' := by
  unfold I64 at ha
  obtain ⟨h1, h2⟩ := ha
  by_cases hn : a < 0
  · have e : IntKind.u64.wrap (-IntKind.u64.wrap a) = (a.natAbs : Int) := by rw [wrapU, wrapU]; omega
    go_enter Try.func86, Try.ntmps86
    go_wp2
    go_ret
    exact ⟨rfl, rfl⟩
  · have e : IntKind.u64.wrap a = (a.natAbs : Int) := by rw [wrapU]; omega
    go_enter Try.func86, Try.ntmps86
    go_wp2
    go_ret
    exact ⟨rfl, rfl⟩
/-- The halves of a product. -/
def hi64 (x y : Nat) : Nat := x * y / 18446744073709551616
def lo64 (x y : Nat) : Nat := x * y % 18446744073709551616
theorem low_or (p m : Nat) (hp : p < 4294967296) : bits .or .u64 (p : Int) ((m * 4294967296 % 18446744073709551616 : Nat) : Int) = ((p + m * 4294967296 % 18446744073709551616 : Nat) : Int) := by
  rw [bits_or_u64_nat _ _ (by omega) (Nat.mod_lt _ (by omega)), Nat.or_comm, or_join 32 _ _ (by omega) (by omega)]
  omega
/-- The numbers that the walk meets. -/
theorem times_nums (x y : Nat) (hx : x < 18446744073709551616) (hy : y < 18446744073709551616) :
    ∃ a0 a1 b0 b1 P Z R S P0 P1 Z0 Z1 R0 R1 ML LO : Nat,
      bits .and .u64 (x : Int) 4294967295 = (a0 : Int) ∧ (x : Int) / 4294967296 = (a1 : Int) ∧ bits .and .u64 (y : Int) 4294967295 = (b0 : Int) ∧ (y : Int) / 4294967296 = (b1 : Int) ∧
      IntKind.u64.wrap ((a0 : Int) * (b0 : Int)) = (P : Int) ∧ IntKind.u64.wrap ((a1 : Int) * (b0 : Int)) = (Z : Int) ∧ IntKind.u64.wrap ((a0 : Int) * (b1 : Int)) = (R : Int) ∧ IntKind.u64.wrap ((a1 : Int) * (b1 : Int)) = (S : Int) ∧
      bits .and .u64 (P : Int) 4294967295 = (P0 : Int) ∧ (P : Int) / 4294967296 = (P1 : Int) ∧ bits .and .u64 (Z : Int) 4294967295 = (Z0 : Int) ∧ (Z : Int) / 4294967296 = (Z1 : Int) ∧ bits .and .u64 (R : Int) 4294967295 = (R0 : Int) ∧ (R : Int) / 4294967296 = (R1 : Int) ∧
      (P0 < 4294967296 ∧ P1 < 4294967296 ∧ Z0 < 4294967296 ∧ Z1 < 4294967296 ∧ R0 < 4294967296 ∧ R1 < 4294967296 ∧ S ≤ 18446744065119617025) ∧
      IntKind.u64.wrap (((P1 : Int) + (Z0 : Int) + (R0 : Int)) * 4294967296) = (ML : Int) ∧ bits .or .u64 (P0 : Int) (ML : Int) = (LO : Int) ∧
      IntKind.u64.wrap ((S : Int) + (Z1 : Int) + (R1 : Int) + ((P1 : Int) + (Z0 : Int) + (R0 : Int)) / 4294967296) = (hi64 x y : Int) ∧ LO = lo64 x y := by
  have e : x * y = (x / 4294967296) * (y / 4294967296) * (4294967296 * 4294967296) + ((x / 4294967296) * (y % 4294967296) + (x % 4294967296) * (y / 4294967296)) * 4294967296 + (x % 4294967296) * (y % 4294967296) := by
    rw [← Lib.split_mul, Nat.div_add_mod' x 4294967296, Nat.div_add_mod' y 4294967296]
  have ha := Lib.half_mul_le (a := x / 4294967296) (b := y / 4294967296) (by omega) (by omega)
  have hb := Lib.half_mul_le (a := x / 4294967296) (b := y % 4294967296) (by omega) (by omega)
  have hc := Lib.half_mul_le (a := x % 4294967296) (b := y / 4294967296) (by omega) (by omega)
  have hd := Lib.half_mul_le (a := x % 4294967296) (b := y % 4294967296) (by omega) (by omega)
  have m0 := maskN x hx
  have m1 := maskN y hy
  have d0 : (x : Int) / 4294967296 = ((x / 4294967296 : Nat) : Int) := by omega
  have d1 : (y : Int) / 4294967296 = ((y / 4294967296 : Nat) : Int) := by omega
  unfold hi64 lo64
  rw [e]
  clear e
  generalize x / 4294967296 = a1 at *
  generalize x % 4294967296 = a0 at *
  generalize y / 4294967296 = b1 at *
  generalize y % 4294967296 = b0 at *
  refine ⟨a0, a1, b0, b1, a0 * b0, a1 * b0, a0 * b1, a1 * b1, a0 * b0 % 4294967296, a0 * b0 / 4294967296, a1 * b0 % 4294967296, a1 * b0 / 4294967296, a0 * b1 % 4294967296, a0 * b1 / 4294967296,
    (a0 * b0 / 4294967296 + a1 * b0 % 4294967296 + a0 * b1 % 4294967296) * 4294967296 % 18446744073709551616, a0 * b0 % 4294967296 + (a0 * b0 / 4294967296 + a1 * b0 % 4294967296 + a0 * b1 % 4294967296) * 4294967296 % 18446744073709551616,
    m0, d0, m1, d1, ?_, ?_, ?_, ?_, ?_, ?_, ?_, ?_, ?_, ?_, ?_, ?_, ?_, ?_, ?_⟩
  · rw [← Int.natCast_mul]; exact wrapN _ (by omega)
  · rw [← Int.natCast_mul]; exact wrapN _ (by omega)
  · rw [← Int.natCast_mul]; exact wrapN _ (by omega)
  · rw [← Int.natCast_mul]; exact wrapN _ (by omega)
  all_goals
    generalize a0 * b0 = P at *
    generalize a1 * b0 = Z at *
    generalize a0 * b1 = R at *
    generalize a1 * b1 = S at *
  · exact maskN _ (by omega)
  · omega
  · exact maskN _ (by omega)
  · omega
  · exact maskN _ (by omega)
  · omega
  · omega
  · rw [← wrapM]; congr 1
  · exact low_or _ _ (by omega)
  · rw [wrapU]; omega
  · omega
/-- The document's product of halves. -/
theorem times_any (x y : Nat) (hx : x < 18446744073709551616) (hy : y < 18446744073709551616) (w : World) :
    Calls Try.prog 85 #[.int .u64 x, .int .u64 y] w fun e w' => e = .returned (.agg #[.int .u64 (hi64 x y), .int .u64 (lo64 x y)]) ∧ Q w w' := by
  obtain ⟨a0, a1, b0, b1, P, Z, R, S, P0, P1, Z0, Z1, R0, R1, ML, LO, e1, e2, e3, e4, e5, e6, e7, e8, e9, e10, e11, e12, e13, e14, ⟨u1, u2, u3, u4, u5, u6, u7⟩, e15, e16, e17, e18⟩ := times_nums x y hx hy
  subst e18
  go_enter Try.func85, Try.ntmps85
  go_wp2
  refine bodyPost_ret (v := .agg #[.int .u64 (hi64 x y), .int .u64 (lo64 x y)]) (by simp [results, Try.results85, go_sem]) rfl ⟨rfl, ?_⟩
  exact (Q.refl w).alloc _ _
/-- Is an amount of halves, with a sign, a number of 64 bits? -/
theorem long_fits (hi lo : Nat) (neg : Bool) (hlo : lo < 18446744073709551616) : I64 (sg neg (hi * 18446744073709551616 + lo)) ↔ (hi = 0 ∧ (lo < 9223372036854775808 ∨ (lo = 9223372036854775808 ∧ neg = true))) := by
  cases neg
  · rw [sg_fits_pos]; simp; omega
  · rw [sg_fits_neg]; simp; omega
theorem rsigned_any (hi lo : Nat) (neg : Bool) (hlo : lo < 18446744073709551616) (w : World) :
    Calls Try.prog 88 #[.agg #[.int .u64 hi, .int .u64 lo], .bool neg] w fun e w' => e = .returned (.tuple #[.int .i64 (qv (sg neg (hi * 18446744073709551616 + lo))), .bool (decide (I64 (sg neg (hi * 18446744073709551616 + lo))))]) ∧ Q w w' := by
  have hf := long_fits hi lo neg hlo
  by_cases h : I64 (sg neg (hi * 18446744073709551616 + lo))
  · rw [qv_yes h, decide_eq_true h]
    obtain ⟨rfl, h'⟩ := hf.1 h
    rw [Nat.zero_mul, Nat.zero_add]
    have b1 : decide ((9223372036854775808 : Int) < (lo : Int)) = false := decide_eq_false (by omega)
    clear hf h
    cases neg
    · have b2 : ((lo : Int) == 9223372036854775808) = false := by rw [beq_eq_false_iff_ne]; simp at h'; omega
      have e : IntKind.i64.wrap (lo : Int) = sg false lo := by rw [IntKind.wrap_i64]; unfold sg; simp at h' ⊢; omega
      clear h'
      go_enter Try.func88, Try.ntmps88
      go_wp2
      go_ret2
      exact ⟨rfl, (Q.refl w).alloc _ _⟩
    · have e : IntKind.i64.wrap (IntKind.u64.wrap (-(lo : Int))) = sg true lo := by rw [IntKind.wrap_i64, wrapU]; unfold sg; simp at h' ⊢; omega
      have b2 : ((lo : Int) == 9223372036854775808) = true ∨ ((lo : Int) == 9223372036854775808) = false := by cases (lo : Int) == 9223372036854775808 <;> simp
      clear h'
      rcases b2 with b2 | b2
      all_goals
        go_enter Try.func88, Try.ntmps88
        go_wp2
        go_ret2
        exact ⟨rfl, (Q.refl w).alloc _ _⟩
  · rw [qv_no h, decide_eq_false h]
    have h' : ¬ (hi = 0 ∧ (lo < 9223372036854775808 ∨ (lo = 9223372036854775808 ∧ neg = true))) := fun c => h (hf.2 c)
    clear hf h
    by_cases h0 : hi = 0
    · subst h0
      by_cases h1 : 9223372036854775808 < lo
      · have b1 : decide ((9223372036854775808 : Int) < (lo : Int)) = true := decide_eq_true (by omega)
        clear h' h1
        go_enter Try.func88, Try.ntmps88
        go_wp2
        go_ret2
        exact ⟨rfl, (Q.refl w).alloc _ _⟩
      · have h2 : lo = 9223372036854775808 := by
          by_cases c : lo < 9223372036854775808
          · exact absurd ⟨rfl, Or.inl c⟩ h'
          · omega
        have h3 : neg = false := by
          cases neg
          · rfl
          · exact absurd ⟨rfl, Or.inr ⟨h2, rfl⟩⟩ h'
        have b1 : decide ((9223372036854775808 : Int) < (lo : Int)) = false := decide_eq_false (by omega)
        have b2 : ((lo : Int) == 9223372036854775808) = true := by rw [beq_iff_eq]; omega
        subst h3
        clear h' h1 h2
        go_enter Try.func88, Try.ntmps88
        go_wp2
        go_ret2
        exact ⟨rfl, (Q.refl w).alloc _ _⟩
    · have b0 : ((hi : Int) != 0) = true := by simpa using h0
      clear h' h0
      go_enter Try.func88, Try.ntmps88
      go_wp2
      go_ret2
      exact ⟨rfl, (Q.refl w).alloc _ _⟩
theorem told_any (v : Int) (c : Prop) [Decidable c] (w : World) :
    Calls Try.prog 87 #[.int .i64 v, .bool (decide c)] w fun e w' => e = .returned (.tuple #[.int .i64 (if c then v else 0), .int .i64 (if c then 0 else 21)]) ∧ w = w' := by
  by_cases h : c
  · rw [decide_eq_true h, if_pos h, if_pos h]
    clear h
    go_enter Try.func87, Try.ntmps87
    go_wp2
    go_ret2
    exact ⟨rfl, rfl⟩
  · rw [decide_eq_false h, if_neg h, if_neg h]
    clear h
    go_enter Try.func87, Try.ntmps87
    go_wp2
    go_ret2
    exact ⟨rfl, rfl⟩
/-- What 'told' says of a number that 'signed' gave. -/
theorem told_qv (v : Int) (w : World) :
    Calls Try.prog 87 #[.int .i64 (qv v), .bool (decide (I64 v))] w fun e w' => e = .returned (.tuple #[.int .i64 (qv v), .int .i64 (qe v)]) ∧ w = w' := by
  refine (told_any (qv v) (I64 v) w).mono fun e w' h => ⟨?_, h.2⟩
  rw [h.1]
  by_cases c : I64 v
  · rw [if_pos c, if_pos c, qe_yes c]
  · rw [if_neg c, if_neg c, qv_no c, qe_no c]
theorem halves (x y : Nat) : hi64 x y * 18446744073709551616 + lo64 x y = x * y := Nat.div_add_mod' _ _
theorem lo64_lt (x y : Nat) : lo64 x y < 18446744073709551616 := Nat.mod_lt _ (by omega)
end Go.Proofs.Ytnmcgleanpdlmaa

namespace Go.Proofs.Ytnmcgleanpdlmaa
/-- The document's division, bit by bit: with n bits to go. -/
structure Dv (N D n qh ql r : Nat) : Prop where
  quo : qh * 18446744073709551616 + ql = N / 2 ^ n / D * 2 ^ n
  rest : r = N / 2 ^ n % D
  lo : ql < 18446744073709551616
theorem two64 (m : Nat) (h : 64 ≤ m) : 2 ^ m = 18446744073709551616 * 2 ^ (m - 64) := by
  rw [show (18446744073709551616 : Nat) = 2 ^ 64 from by decide, ← Nat.pow_add, show 64 + (m - 64) = m by omega]
theorem low64 (m : Nat) (h : m < 64) : (18446744073709551616 : Nat) = 2 ^ m * (2 * 2 ^ (63 - m)) := by
  have e : 64 = m + (1 + (63 - m)) := by omega
  rw [show (18446744073709551616 : Nat) = 2 ^ 64 from by decide]
  conv => lhs; rw [e]
  rw [Nat.pow_add, Nat.pow_add, Nat.pow_one]
theorem bit_high (hi lo m : Nat) (hlo : lo < 18446744073709551616) (hm : 64 ≤ m) : (hi * 18446744073709551616 + lo) / 2 ^ m = hi / 2 ^ (m - 64) := by
  rw [two64 m hm, ← Nat.div_div_eq_div_mul]
  congr 1
  omega
theorem bit_low (hi lo m : Nat) (hm : m < 64) : (hi * 18446744073709551616 + lo) / 2 ^ m % 2 = lo / 2 ^ m % 2 := by
  rw [low64 m hm, Nat.mul_comm hi, Nat.mul_assoc, Nat.mul_add_div (Nat.two_pow_pos m), Nat.mul_assoc, Nat.mul_add_mod]
/-- One bit more: the quotient and the rest. -/
theorem div_step (X D b : Nat) (hD : 0 < D) (hb : b < 2) :
    (D ≤ 2 * (X % D) + b → (2 * X + b) / D = 2 * (X / D) + 1 ∧ (2 * X + b) % D = 2 * (X % D) + b - D) ∧
    (¬ D ≤ 2 * (X % D) + b → (2 * X + b) / D = 2 * (X / D) ∧ (2 * X + b) % D = 2 * (X % D) + b) := by
  have h := Nat.div_add_mod X D
  have hl := Nat.mod_lt X hD
  generalize X / D = q at *
  generalize X % D = r at *
  constructor
  · intro c
    have e : 2 * X + b = (2 * r + b - D) + D * (2 * q + 1) := by rw [Nat.mul_add, Nat.mul_left_comm]; omega
    rw [e, Nat.add_mul_div_left _ _ hD, Nat.add_mul_mod_self_left, Nat.div_eq_of_lt (by omega), Nat.mod_eq_of_lt (by omega)]
    omega
  · intro c
    have e : 2 * X + b = (2 * r + b) + D * (2 * q) := by rw [Nat.mul_left_comm]; omega
    rw [e, Nat.add_mul_div_left _ _ hD, Nat.add_mul_mod_self_left, Nat.div_eq_of_lt (by omega), Nat.mod_eq_of_lt (by omega)]
    omega
theorem half_step (N m : Nat) : N / 2 ^ m = 2 * (N / 2 ^ (m + 1)) + N / 2 ^ m % 2 := by
  rw [Nat.pow_succ, ← Nat.div_div_eq_div_mul]; omega
theorem Dv.take {N D m qh ql r : Nat} (hD : 0 < D) (d : Dv N D (m + 1) qh ql r) (h : D ≤ 2 * r + N / 2 ^ m % 2) :
    qh * 18446744073709551616 + ql + 2 ^ m = N / 2 ^ m / D * 2 ^ m ∧ 2 * r + N / 2 ^ m % 2 - D = N / 2 ^ m % D := by
  have s := (div_step (N / 2 ^ (m + 1)) D (N / 2 ^ m % 2) hD (Nat.mod_lt _ (by omega))).1
  rw [← d.rest, ← half_step] at s
  have s' := s h
  have q := d.quo
  refine ⟨?_, s'.2.symm⟩
  rw [q, s'.1, Nat.pow_succ, Nat.add_mul, Nat.mul_comm 2, Nat.mul_assoc, Nat.mul_comm (2 ^ m) 2, Nat.one_mul]
theorem Dv.leave {N D m qh ql r : Nat} (hD : 0 < D) (d : Dv N D (m + 1) qh ql r) (h : ¬ D ≤ 2 * r + N / 2 ^ m % 2) : Dv N D m qh ql (2 * r + N / 2 ^ m % 2) := by
  have s := (div_step (N / 2 ^ (m + 1)) D (N / 2 ^ m % 2) hD (Nat.mod_lt _ (by omega))).2
  rw [← d.rest, ← half_step] at s
  have s' := s h
  have q := d.quo
  refine ⟨?_, s'.2.symm, d.lo⟩
  rw [q, s'.1]
  generalize N / 2 ^ (m + 1) / D = X
  rw [Nat.pow_succ, Nat.mul_comm 2 X, Nat.mul_assoc, Nat.mul_comm (2 ^ m) 2]
theorem Dv.hi_lt {N D n qh ql r : Nat} (d : Dv N D n qh ql r) (hN : N < 18446744073709551616 * 18446744073709551616) : qh < 18446744073709551616 := by
  have q := d.quo
  have h1 : N / 2 ^ n / D * 2 ^ n ≤ N := Nat.le_trans (Nat.mul_le_mul_right _ (Nat.div_le_self _ _)) (Nat.div_mul_le_self _ _)
  omega
theorem Dv.dvd {N D n qh ql r : Nat} (d : Dv N D n qh ql r) : 2 ^ n ∣ qh * 18446744073709551616 + ql := ⟨N / 2 ^ n / D, by rw [d.quo, Nat.mul_comm]⟩
/-- The bit of the quotient that is set, in its half. -/
theorem set_high {N D m qh ql r : Nat} (d : Dv N D (m + 1) qh ql r) (hN : N < 18446744073709551616 * 18446744073709551616) (hm : 64 ≤ m) (hm2 : m < 128) :
    IntKind.u64.wrap ((2 : Int) ^ (m - 64)) = ((2 ^ (m - 64) : Nat) : Int) ∧ bits .or .u64 (qh : Int) ((2 ^ (m - 64) : Nat) : Int) = ((qh + 2 ^ (m - 64) : Nat) : Int) ∧
      (qh + 2 ^ (m - 64)) * 18446744073709551616 + ql = qh * 18446744073709551616 + ql + 2 ^ m := by
  have hp : 2 ^ (m - 64) ≤ 2 ^ 63 := Nat.pow_le_pow_right (by omega) (by omega)
  have hd := d.dvd
  have hlo := d.lo
  have h64 : 2 ^ (m + 1) = 18446744073709551616 * 2 ^ (m + 1 - 64) := two64 (m + 1) (by omega)
  have hq : 2 ^ (m - 64 + 1) ∣ qh := by
    rw [h64, show m + 1 - 64 = m - 64 + 1 by omega] at hd
    obtain ⟨k, hk⟩ := hd
    rw [Nat.mul_assoc] at hk
    refine ⟨k, ?_⟩
    omega
  refine ⟨?_, ?_, ?_⟩
  · rw [show ((2 : Int) ^ (m - 64)) = ((2 ^ (m - 64) : Nat) : Int) by push_cast; rfl]; exact wrapN _ (by omega)
  · rw [bits_or_u64_nat _ _ (d.hi_lt hN) (by omega), or_join (m - 64 + 1) _ _ hq (Nat.pow_lt_pow_right (by omega) (by omega))]
  · rw [two64 m hm, Nat.add_mul, Nat.mul_comm (2 ^ (m - 64))]; omega
theorem set_low {N D m qh ql r : Nat} (d : Dv N D (m + 1) qh ql r) (hm : m < 64) :
    IntKind.u64.wrap ((2 : Int) ^ m) = ((2 ^ m : Nat) : Int) ∧ bits .or .u64 (ql : Int) ((2 ^ m : Nat) : Int) = ((ql + 2 ^ m : Nat) : Int) ∧ ql + 2 ^ m < 18446744073709551616 := by
  have hp : 2 ^ m ≤ 2 ^ 63 := Nat.pow_le_pow_right (by omega) (by omega)
  have hd := d.dvd
  have hlo := d.lo
  have h64 := low64 m hm
  have hq : 2 ^ (m + 1) ∣ ql := by
    have h1 : 2 ^ (m + 1) ∣ qh * 18446744073709551616 := by
      rw [h64, ← Nat.mul_assoc (2 ^ m), ← Nat.pow_succ]
      exact ⟨qh * 2 ^ (63 - m), by rw [Nat.mul_left_comm]⟩
    exact (Nat.dvd_add_right h1).1 hd
  refine ⟨?_, ?_, ?_⟩
  · rw [show ((2 : Int) ^ m) = ((2 ^ m : Nat) : Int) by push_cast; rfl]; exact wrapN _ (by omega)
  · rw [bits_or_u64_nat _ _ hlo (by omega), or_join (m + 1) _ _ hq (Nat.pow_lt_pow_right (by omega) (by omega))]
  · obtain ⟨k, hk⟩ := hq
    have h2 : 2 ^ m * (2 * k) < 2 ^ m * (2 * 2 ^ (63 - m)) := by rw [← h64, ← Nat.mul_assoc, ← Nat.pow_succ, ← hk]; exact hlo
    have h3 := Nat.lt_of_mul_lt_mul_left h2
    have h4 := Nat.mul_le_mul_left (2 ^ m) (show 2 * k + 2 ≤ 2 * 2 ^ (63 - m) by omega)
    rw [← h64, Nat.mul_add, ← Nat.mul_assoc, ← Nat.pow_succ, ← hk] at h4
    omega
theorem mask1 (a : Nat) (ha : a < 18446744073709551616) : bits .and .u64 (a : Int) 1 = ((a % 2 : Nat) : Int) := by
  have h := bits_and_u64_nat a 1 ha (by omega)
  have e : a &&& 1 = a % 2 := Nat.and_two_pow_sub_one_eq_mod a 1
  rw [e] at h
  exact h
theorem or_bit1 (a b : Nat) (hb : b < 2) : bits .or .u64 ((a * 2 % 18446744073709551616 : Nat) : Int) (b : Int) = ((a * 2 % 18446744073709551616 + b : Nat) : Int) := by
  rw [bits_or_u64_nat _ _ (Nat.mod_lt _ (by omega)) (by omega), or_join 1 _ _ (by omega) (by omega)]
/-- What a round does to the rest, and which way it goes. -/
theorem rest_ways (r b D : Nat) (hb : b < 2) (hr : r < D) (hD : D < 18446744073709551616) :
    ∃ O R2 R3 : Nat, (r : Int) / 9223372036854775808 = (O : Int) ∧ IntKind.u64.wrap ((r : Int) * 2) = (R2 : Int) ∧ bits .or .u64 (R2 : Int) (b : Int) = (R3 : Int) ∧
      ((D ≤ 2 * r + b ∧ ∃ R4 : Nat, IntKind.u64.wrap ((R3 : Int) - (D : Int)) = (R4 : Int) ∧ R4 = 2 * r + b - D ∧ (((O : Int) == 1) = true ∨ (((O : Int) == 1) = false ∧ decide (D ≤ R3) = true))) ∨
       (¬ D ≤ 2 * r + b ∧ R3 = 2 * r + b ∧ ((O : Int) == 1) = false ∧ decide (D ≤ R3) = false)) := by
  refine ⟨r / 9223372036854775808, r * 2 % 18446744073709551616, r * 2 % 18446744073709551616 + b, by omega, ?_, or_bit1 r b hb, ?_⟩
  · rw [show ((r : Int) * 2) = ((r * 2 : Nat) : Int) by omega]; exact wrapM _
  · by_cases h : D ≤ 2 * r + b
    · refine Or.inl ⟨h, 2 * r + b - D, ?_, rfl, ?_⟩
      · rw [wrapU]; omega
      · by_cases c : r / 9223372036854775808 = 1
        · exact Or.inl (by rw [beq_iff_eq]; omega)
        · exact Or.inr ⟨by rw [beq_eq_false_iff_ne]; omega, decide_eq_true (by omega)⟩
    · exact Or.inr ⟨h, by omega, by rw [beq_eq_false_iff_ne]; omega, decide_eq_false (by omega)⟩
/-- The bit that a round reads. -/
theorem bit_read_high (hi lo m : Nat) (hhi : hi < 18446744073709551616) (hlo : lo < 18446744073709551616) (hm : 64 ≤ m) :
    bits .and .u64 ((hi : Int) / 2 ^ (m - 64)) 1 = (((hi * 18446744073709551616 + lo) / 2 ^ m % 2 : Nat) : Int) := by
  rw [bit_high hi lo m hlo hm, ← mask1 _ (Nat.lt_of_le_of_lt (Nat.div_le_self _ _) hhi)]
  push_cast; rfl
theorem bit_read_low (hi lo m : Nat) (hlo : lo < 18446744073709551616) (hm : m < 64) :
    bits .and .u64 ((lo : Int) / 2 ^ (m % 64)) 1 = (((hi * 18446744073709551616 + lo) / 2 ^ m % 2 : Nat) : Int) := by
  rw [bit_low hi lo m hm, ← mask1 _ (Nat.lt_of_le_of_lt (Nat.div_le_self _ _) hlo), Nat.mod_eq_of_lt hm]
  push_cast; rfl
theorem Dv.first (N D : Nat) (hN : N < 18446744073709551616 * 18446744073709551616) : Dv N D 128 0 0 0 := by
  have h : N / 2 ^ 128 = 0 := Nat.div_eq_of_lt (Nat.lt_of_lt_of_eq hN (by decide))
  exact ⟨by rw [h, Nat.zero_div, Nat.zero_mul], by rw [h, Nat.zero_mod], by decide⟩
end Go.Proofs.Ytnmcgleanpdlmaa

namespace Go.Proofs.Ytnmcgleanpdlmaa
open Go.RowKit
/-- What a round keeps: the halves that are read, those that are written, and all that was there. -/
structure Kept (hi lo qh ql : Nat) (w wr : World) : Prop where
  x0 : wr.cell? ⟨w.heap.size, 0, none⟩ = some (.int .u64 hi)
  x1 : wr.cell? ⟨w.heap.size, 1, none⟩ = some (.int .u64 lo)
  y0 : wr.cell? ⟨w.heap.size + 1 + 1, 0, none⟩ = some (.int .u64 qh)
  y1 : wr.cell? ⟨w.heap.size + 1 + 1, 1, none⟩ = some (.int .u64 ql)
  z0 : wr.frozen? ⟨w.heap.size + 1 + 1, 0, none⟩ = false
  z1 : wr.frozen? ⟨w.heap.size + 1 + 1, 1, none⟩ = false
  r0 : ∃ v, wr.cell? ⟨w.heap.size + 1, 0, none⟩ = some v
  r1 : ∃ v, wr.cell? ⟨w.heap.size + 1, 1, none⟩ = some v
  s0 : wr.frozen? ⟨w.heap.size + 1, 0, none⟩ = false
  s1 : wr.frozen? ⟨w.heap.size + 1, 1, none⟩ = false
  q : Q w wr
theorem Kept.high {hi lo qh ql : Nat} {w wr : World} (h : Kept hi lo qh ql w wr) (x : Nat) : Kept hi lo x ql w (wr.setCell ⟨w.heap.size + 1 + 1, 0, none⟩ (.int .u64 x)).drew := by
  have y0 := h.y0
  obtain ⟨v0, e0⟩ := h.r0
  obtain ⟨v1, e1⟩ := h.r1
  exact ⟨by simp [go_sem, h.x0], by simp [go_sem, h.x1], by simp [go_sem, h.y0], by simp [go_sem, h.y1], by simp [go_sem, h.z0], by simp [go_sem, h.z1], ⟨v0, by simp [go_sem, e0]⟩, ⟨v1, by simp [go_sem, e1]⟩, by simp [go_sem, h.s0], by simp [go_sem, h.s1], (h.q.setCell (by simp; omega) _).drew⟩
theorem Kept.low {hi lo qh ql : Nat} {w wr : World} (h : Kept hi lo qh ql w wr) (x : Nat) : Kept hi lo qh x w (wr.setCell ⟨w.heap.size + 1 + 1, 1, none⟩ (.int .u64 x)).drew := by
  have y1 := h.y1
  obtain ⟨v0, e0⟩ := h.r0
  obtain ⟨v1, e1⟩ := h.r1
  exact ⟨by simp [go_sem, h.x0], by simp [go_sem, h.x1], by simp [go_sem, h.y0], by simp [go_sem, h.y1], by simp [go_sem, h.z0], by simp [go_sem, h.z1], ⟨v0, by simp [go_sem, e0]⟩, ⟨v1, by simp [go_sem, e1]⟩, by simp [go_sem, h.s0], by simp [go_sem, h.s1], (h.q.setCell (by simp; omega) _).drew⟩
set_option maxRecDepth 100000 in
theorem divided_any (hi lo D : Nat) (hD : 0 < D) (hDl : D < 18446744073709551616) (hhi : hi < 18446744073709551616) (hlo : lo < 18446744073709551616) (w : World) :
    Calls Try.prog 84 #[.agg #[.int .u64 hi, .int .u64 lo], .int .u64 D] w fun e w' => (∃ qh ql : Nat, qh * 18446744073709551616 + ql = dq hi lo D ∧ ql < 18446744073709551616 ∧ e = .returned (.tuple #[.agg #[.int .u64 qh, .int .u64 ql], .bool (decide (0 < dr hi lo D))])) ∧ Q w w' := by
  have hN : hi * 18446744073709551616 + lo < 18446744073709551616 * 18446744073709551616 := by omega
  have D0 := Dv.first _ D hN
  go_enter Try.func84, Try.ntmps84
  go_wp2
  go_loopw [7, 8] (fun x y wr => ∃ n r qh ql : Nat, n ≤ 128 ∧ Dv (hi * 18446744073709551616 + lo) D n qh ql r ∧ x = .int .u64 r ∧ y = .int .i64 ((n : Int) - 1) ∧ Kept hi lo qh ql w wr) (fun _ y _ => (intOf y + 1).toNat)
  case atStart =>
    refine ⟨128, 0, 0, 0, Nat.le_refl _, D0, rfl, rfl, ?_⟩
    exact ⟨by simp [go_sem], by simp [go_sem], by simp [go_sem], by simp [go_sem], by simp [go_sem], by simp [go_sem], ⟨_, by simp [go_sem]; rfl⟩, ⟨_, by simp [go_sem]; rfl⟩, by simp [go_sem], by simp [go_sem], (((Q.refl w).alloc _ _).alloc _ _).alloc _ _⟩
  case round =>
    clear D0
    obtain ⟨n, r, qh, ql, hn, hd, rfl, rfl, hk⟩ := hrel
    cases n with
    | zero =>
      have y0 := hk.y0
      have y1 := hk.y1
      have s0 := hk.s0
      have s1 := hk.s1
      obtain ⟨v0, r0⟩ := hk.r0
      obtain ⟨v1, r1⟩ := hk.r1
      have e1 : ((0 : Nat) : Int) - 1 = -1 := by omega
      rw [e1]
      clear e1
      have hquo := hd.quo
      have hrest := hd.rest
      have hlo' := hd.lo
      rw [Nat.pow_zero, Nat.div_one, Nat.mul_one] at hquo
      rw [Nat.pow_zero, Nat.div_one] at hrest
      have HQ := Lib.hid hquo
      have hR0 : ((r : Int) != 0) = decide (0 < dr hi lo D) := by
        have : dr hi lo D = r := hrest.symm
        rw [this, Bool.eq_iff_iff]; simp; omega
      generalize hrb : decide (0 < dr hi lo D) = rb at *
      have Hrb := Lib.hid hrb
      clear hquo hrest hd hrb
      go_wp2
      refine bodyPost_ret (v := .tuple #[.agg #[.int .u64 qh, .int .u64 ql], .bool rb]) (by simp [results, Try.results84, go_sem, r0, r1]) rfl ⟨⟨qh, ql, HQ.out, hlo', by rw [Hrb.out]⟩, ?_⟩
      exact (hk.q.setCell (by simp) _).setCell (by simp) _
    | succ m =>
      have e1 : ((m + 1 : Nat) : Int) - 1 = (m : Int) := by omega
      rw [e1]
      clear e1
      have hrD : r < D := by rw [hd.rest]; exact Nat.mod_lt _ hD
      have hb2 : (hi * 18446744073709551616 + lo) / 2 ^ m % 2 < 2 := Nat.mod_lt _ (by omega)
      obtain ⟨O, R2, R3, o1, o2, o3, ways⟩ := rest_ways r _ D hb2 hrD hDl
      have y0 := hk.y0
      have z0 := hk.z0
      have y1 := hk.y1
      have z1 := hk.z1
      have x0 := hk.x0
      have x1 := hk.x1
      by_cases hm : 64 ≤ m
      · have hB : decide ((63 : Int) < (m : Int)) = true := decide_eq_true (by omega)
        have hbit := bit_read_high hi lo m hhi hlo hm
        rcases ways with ⟨c1, R4, c2, c3, c4⟩ | ⟨c1, c2, c3, c4⟩
        · obtain ⟨t1, t2, t3⟩ := set_high hd hN hm (by omega)
          have tk := hd.take hD c1
          rw [← t3, ← c3] at tk
          have hd' : Dv (hi * 18446744073709551616 + lo) D m (qh + 2 ^ (m - 64)) ql R4 := ⟨tk.1, tk.2, hd.lo⟩
          clear tk t3 c1 c3 hd
          generalize (hi * 18446744073709551616 + lo) / 2 ^ m % 2 = b at *
          generalize 2 ^ (m - 64) = T at *
          generalize qh + T = X at *
          rcases c4 with c4 | ⟨c4, c5⟩
          all_goals
            go_wp2
            go_region
            go_wp2
            go_roundw
            case rel => exact ⟨m, R4, X, ql, by omega, hd', rfl, rfl, hk.high X⟩
            case measure => simp [intOf]
        · have hd' := hd.leave hD c1
          rw [← c2] at hd'
          clear c1 c2 hd
          generalize (hi * 18446744073709551616 + lo) / 2 ^ m % 2 = b at *
          go_wp2
          go_roundw
          case rel => exact ⟨m, R3, qh, ql, by omega, hd', rfl, rfl, hk⟩
          case measure => simp [intOf]
      · have hB : decide ((63 : Int) < (m : Int)) = false := decide_eq_false (by omega)
        have hbit := bit_read_low hi lo m hlo (by omega)
        rcases ways with ⟨c1, R4, c2, c3, c4⟩ | ⟨c1, c2, c3, c4⟩
        · obtain ⟨t1, t2, t3⟩ := set_low hd (by omega)
          have tk := hd.take hD c1
          rw [← c3, Nat.add_assoc] at tk
          have hd' : Dv (hi * 18446744073709551616 + lo) D m qh (ql + 2 ^ m) R4 := ⟨tk.1, tk.2, t3⟩
          clear tk t3 c1 c3 hd
          generalize (hi * 18446744073709551616 + lo) / 2 ^ m % 2 = b at *
          generalize 2 ^ m = T at *
          generalize ql + T = X at *
          rcases c4 with c4 | ⟨c4, c5⟩
          all_goals
            go_wp2
            go_region
            go_wp2
            go_roundw
            case rel => exact ⟨m, R4, qh, X, by omega, hd', rfl, rfl, hk.low X⟩
            case measure => simp [intOf]
        · have hd' := hd.leave hD c1
          rw [← c2] at hd'
          clear c1 c2 hd
          generalize (hi * 18446744073709551616 + lo) / 2 ^ m % 2 = b at *
          go_wp2
          go_roundw
          case rel => exact ⟨m, R3, qh, ql, by omega, hd', rfl, rfl, hk⟩
          case measure => simp [intOf]
/-- The quotient's halves, and one more. -/
theorem up_one (qh ql : Nat) (h : ql < 18446744073709551616) (h2 : qh < 18446744073709551615) :
    (∃ l : Nat, IntKind.u64.wrap ((ql : Int) + 1) = (l : Int) ∧ ((l : Int) == 0) = false ∧ l < 18446744073709551616 ∧ qh * 18446744073709551616 + l = qh * 18446744073709551616 + ql + 1) ∨
    (∃ k : Nat, IntKind.u64.wrap ((ql : Int) + 1) = 0 ∧ IntKind.u64.wrap ((qh : Int) + 1) = (k : Int) ∧ k * 18446744073709551616 + 0 = qh * 18446744073709551616 + ql + 1) := by
  by_cases c : ql = 18446744073709551615
  · refine Or.inr ⟨qh + 1, ?_, ?_, by omega⟩
    · rw [wrapU]; omega
    · rw [wrapU]; omega
  · refine Or.inl ⟨ql + 1, ?_, ?_, by omega, by omega⟩
    · rw [wrapU]; omega
    · rw [beq_eq_false_iff_ne]; omega
/-- As a caller spells the halves. -/
theorem rsigned_int (x z : Int) (hi lo : Nat) (neg : Bool) (hx : x = (hi : Int)) (hz : z = (lo : Int)) (hlo : lo < 18446744073709551616) (v : Int) (hv : sg neg (hi * 18446744073709551616 + lo) = v) (w : World) :
    Calls Try.prog 88 #[.agg #[.int .u64 x, .int .u64 z], .bool neg] w fun e w' => e = .returned (.tuple #[.int .i64 (qv v), .bool (decide (I64 v))]) ∧ Q w w' := by
  subst hx hz hv
  exact rsigned_any hi lo neg hlo w
theorem rmuldiv_zero (a b : Int) (up : Bool) (w : World) :
    Calls Try.prog 83 #[.int .i64 a, .int .i64 b, .int .i64 0, .bool up] w fun e w' => e = .returned (.tuple #[.int .i64 0, .int .i64 22]) ∧ w = w' := by
  go_enter Try.func83, Try.ntmps83
  go_wp2
  go_ret2
  exact ⟨rfl, rfl⟩
set_option maxHeartbeats 1000000 in
theorem rmuldiv_any (a b y : Int) (up : Bool) (ha : I64 a) (hb : I64 b) (hy : I64 y) (w : World) :
    Calls Try.prog 83 #[.int .i64 a, .int .i64 b, .int .i64 y, .bool up] w fun e w' => e = .returned (.tuple #[.int .i64 (mv a b y up), .int .i64 (me a b y up)]) ∧ Q w w' := by
  by_cases h0 : y = 0
  · subst h0
    exact (rmuldiv_zero a b up w).mono fun _ _ h => ⟨by rw [h.1]; rfl, by rw [← h.2]; exact Q.refl _⟩
  · have em : mv a b y up = qv (mq a b y up) ∧ me a b y up = qe (mq a b y up) := ⟨if_neg h0, if_neg h0⟩
    rw [em.1, em.2, mq_eq a b y up h0]
    clear em
    have hne : (y == 0) = false := by simpa using h0
    have nbT : y < 0 → (decide (a < 0) == decide (b < 0)) = nb a b y := fun h => by unfold nb; rw [decide_eq_true h]; cases decide (a < 0) <;> cases decide (b < 0) <;> rfl
    have nbF : ¬ y < 0 → (decide (a < 0) == decide (b < 0)) = !nb a b y := fun h => by unfold nb; rw [decide_eq_false h]; cases decide (a < 0) <;> cases decide (b < 0) <;> rfl
    generalize nb a b y = neg at *
    have cA := fun w => amount_any a ha w
    have cB := fun w => amount_any b hb w
    have cY := fun w => amount_any y hy w
    have lA := (abs_lt a ha).1
    have lB := (abs_lt b hb).1
    have lY := (abs_lt y hy).1
    have pY : 0 < y.natAbs := by omega
    have lA2 := (abs_lt a ha).2
    have lB2 := (abs_lt b hb).2
    generalize a.natAbs = A at *
    generalize b.natAbs = B at *
    generalize y.natAbs = Y at *
    have cT := fun w => times_any A B lA lB w
    have lH : hi64 A B < 18446744073709551616 := by
      unfold hi64
      rw [Nat.div_lt_iff_lt_mul (by omega)]
      have := Nat.mul_le_mul (Nat.le_of_lt_succ lA) (Nat.le_of_lt_succ lB)
      omega
    have cD := fun w => divided_any (hi64 A B) (lo64 A B) Y pY lY lH (lo64_lt _ _) w
    have hh := halves A B
    have hprod : A * B ≤ 9223372036854775808 * 9223372036854775808 := Nat.mul_le_mul lA2 lB2
    have hdq : dq (hi64 A B) (lo64 A B) Y = A * B / Y := by unfold dq; rw [hh]
    have hdr : dr (hi64 A B) (lo64 A B) Y = A * B % Y := by unfold dr; rw [hh]
    rw [hdq, hdr] at cD
    generalize hi64 A B = H at *
    generalize lo64 A B = L at *
    clear hh hdq hdr lA lB lA2 lB2
    have hql : A * B / Y ≤ 9223372036854775808 * 9223372036854775808 := Nat.le_trans (Nat.div_le_self _ _) hprod
    unfold qu
    generalize A * B / Y = K at *
    generalize A * B % Y = R at *
    clear hprod ha hb hy h0
    have hys : (decide (y < 0) = true ∧ (decide (a < 0) == decide (b < 0)) = neg) ∨ (decide (y < 0) = false ∧ (decide (a < 0) == decide (b < 0)) = !neg) := by
      by_cases h : y < 0
      · exact Or.inl ⟨decide_eq_true h, nbT h⟩
      · exact Or.inr ⟨decide_eq_false h, nbF h⟩
    clear nbT nbF
    have ways : (decide (0 < R) = false ∧ (K + if (up != neg && decide (0 < R)) = true then 1 else 0) = K) ∨
        (decide (0 < R) = true ∧ neg = up ∧ (K + if (up != neg && decide (0 < R)) = true then 1 else 0) = K) ∨
        (decide (0 < R) = true ∧ neg = !up ∧ (K + if (up != neg && decide (0 < R)) = true then 1 else 0) = K + 1) := by
      by_cases hR : 0 < R
      · by_cases hu : neg = up
        · exact Or.inr (Or.inl ⟨decide_eq_true hR, hu, by rw [hu]; simp⟩)
        · have hn : neg = !up := by revert hu; cases up <;> cases neg <;> simp
          exact Or.inr (Or.inr ⟨decide_eq_true hR, hn, by rw [hn]; simp [hR]⟩)
      · exact Or.inl ⟨decide_eq_false hR, by simp [hR]⟩
    rcases ways with ⟨k1, k2⟩ | ⟨k1, k3, k2⟩ | ⟨k1, k3, k2⟩
    · rw [k2]
      rw [k1] at cD
      clear k1 k2
      have cG := fun w => told_qv (sg neg K) w
      generalize hv : sg neg K = v at *
      have Hv := Lib.hid hv
      clear hv
      rcases hys with ⟨j1, j2⟩ | ⟨j1, j2⟩
      all_goals
        go_enter Try.func83, Try.ntmps83
        go_wp2_with fail
        refine (cA _).mono ?_
        rintro e w1 ⟨rfl, rfl⟩
        go_wp2_with fail
        refine (cB _).mono ?_
        rintro e w1 ⟨rfl, rfl⟩
        go_wp2_with fail
        refine (cT _).mono ?_
        rintro e w1 ⟨rfl, q1⟩
        go_wp2_with fail
        refine (cY _).mono ?_
        rintro e w2 ⟨rfl, rfl⟩
        go_wp2_with fail
        refine (cD _).mono ?_
        rintro e w2 ⟨⟨qh, ql, u1, u2, rfl⟩, q2⟩
        have U1 := Lib.hid u1
        clear u1
        go_wp2_with fail
        refine (rsigned_int _ _ qh ql _ rfl rfl u2 v (by rw [U1.out]; exact Hv.out) _).mono ?_
        rintro e w3 ⟨rfl, q3⟩
        go_wp2_with fail
        refine (cG _).mono ?_
        rintro e w4 ⟨rfl, rfl⟩
        go_wp2
        go_ret2
        exact ⟨rfl, ((q1.trans q2).alloc _ _).trans q3⟩
    · rw [k2]
      rw [k1] at cD
      clear k1 k2
      subst k3
      have cG := fun w => told_qv (sg neg K) w
      generalize hv : sg neg K = v at *
      have Hv := Lib.hid hv
      clear hv
      cases neg
      all_goals
        rcases hys with ⟨j1, j2⟩ | ⟨j1, j2⟩
        all_goals
          go_enter Try.func83, Try.ntmps83
          go_wp2_with fail
          refine (cA _).mono ?_
          rintro e w1 ⟨rfl, rfl⟩
          go_wp2_with fail
          refine (cB _).mono ?_
          rintro e w1 ⟨rfl, rfl⟩
          go_wp2_with fail
          refine (cT _).mono ?_
          rintro e w1 ⟨rfl, q1⟩
          go_wp2_with fail
          refine (cY _).mono ?_
          rintro e w2 ⟨rfl, rfl⟩
          go_wp2_with fail
          refine (cD _).mono ?_
          rintro e w2 ⟨⟨qh, ql, u1, u2, rfl⟩, q2⟩
          have U1 := Lib.hid u1
          clear u1
          go_wp2_with fail
          refine (rsigned_int _ _ qh ql _ rfl rfl u2 v (by rw [U1.out]; exact Hv.out) _).mono ?_
          rintro e w3 ⟨rfl, q3⟩
          go_wp2_with fail
          refine (cG _).mono ?_
          rintro e w4 ⟨rfl, rfl⟩
          go_wp2
          go_ret2
          exact ⟨rfl, ((q1.trans q2).alloc _ _).trans q3⟩
    · rw [k2]
      rw [k1] at cD
      clear k1 k2
      have cG := fun w => told_qv (sg neg (K + 1)) w
      generalize hv : sg neg (K + 1) = v at *
      have Hv := Lib.hid hv
      clear hv
      subst k3
      cases up
      all_goals
        rcases hys with ⟨j1, j2⟩ | ⟨j1, j2⟩
        all_goals
          go_enter Try.func83, Try.ntmps83
          go_wp2_with fail
          refine (cA _).mono ?_
          rintro e w1 ⟨rfl, rfl⟩
          go_wp2_with fail
          refine (cB _).mono ?_
          rintro e w1 ⟨rfl, rfl⟩
          go_wp2_with fail
          refine (cT _).mono ?_
          rintro e w1 ⟨rfl, q1⟩
          go_wp2_with fail
          refine (cY _).mono ?_
          rintro e w2 ⟨rfl, rfl⟩
          go_wp2_with fail
          refine (cD _).mono ?_
          rintro e w2 ⟨⟨qh, ql, u1, u2, rfl⟩, q2⟩
          have ups := up_one qh ql u2 (by omega)
          have U1 := Lib.hid u1
          clear u1
          rcases ups with ⟨l, p1, p2, p3, p4⟩ | ⟨l, p1, p2, p3⟩
          · have P4 := Lib.hid p4
            clear p4
            go_wp2_with fail
            refine (rsigned_int _ _ qh l _ rfl rfl p3 v (by rw [P4.out, U1.out]; exact Hv.out) _).mono ?_
            rintro e w3 ⟨rfl, q3⟩
            go_wp2_with fail
            refine (cG _).mono ?_
            rintro e w4 ⟨rfl, rfl⟩
            go_wp2
            go_ret2
            exact ⟨rfl, ((q1.trans q2).alloc _ _).trans q3⟩
          · have P3 := Lib.hid p3
            clear p3
            go_wp2_with fail
            refine (rsigned_int _ _ l 0 _ rfl rfl (by omega) v (by rw [P3.out, U1.out]; exact Hv.out) _).mono ?_
            rintro e w3 ⟨rfl, q3⟩
            go_wp2_with fail
            refine (cG _).mono ?_
            rintro e w4 ⟨rfl, rfl⟩
            go_wp2
            go_ret2
            exact ⟨rfl, ((q1.trans q2).alloc _ _).trans q3⟩
end Go.Proofs.Ytnmcgleanpdlmaa

namespace Go.Proofs.Ytnmcgleanpdlmaa
open Go.RowKit
theorem straight_any (x0 x1 at_ h : Int) (up : Bool) (a0 : 0 ≤ x0) (b0 : x0 ≤ 20000) (a1 : 0 ≤ x1) (b1 : x1 ≤ 20000) (h0 : 0 ≤ at_) (h1 : at_ ≤ h) (hh : 1 ≤ h) (hI : I64 h) (w : World) :
    Calls Try.prog 78 #[.int .i64 x0, .int .i64 x1, .int .i64 at_, .int .i64 h, .bool up] w fun e w' => e = .returned (.int .i64 (sideM x0 x1 at_ h up)) ∧ Q w w' := by
  obtain ⟨f1, f2, f3, f4⟩ := side_fits a0 b0 a1 b1 h0 h1 hh up
  have c := fun w => rmuldiv_any (x1 - x0) at_ h up (by unfold I64; omega) (by unfold I64 at *; omega) hI w
  have e1 : IntKind.i64.wrap (x1 - x0) = x1 - x0 := wrapI (by omega) (by omega)
  unfold sideM at *
  generalize mv (x1 - x0) at_ h up = g at *
  generalize me (x1 - x0) at_ h up = g' at *
  have e2 : IntKind.i64.wrap (x0 + g) = x0 + g := wrapI (by omega) (by omega)
  clear f1 f2 f3 f4
  go_enter Try.func78, Try.ntmps78
  go_wp2_with fail
  refine (c _).mono ?_
  rintro e w1 ⟨rfl, h⟩
  go_wp2
  go_ret
  exact ⟨rfl, h⟩
set_option maxHeartbeats 4000000 in
theorem r3side_any (r : Bool) (h a0 b0 a1 b1 at_ : Int) (up : Bool) (w : World) (hI : Sec.I ⟨r, h, a0, b0, a1, b1⟩) (_hat : I64 at_) :
    Calls Try.prog 67 #[.agg #[.bool r, .int .i64 h, .int .i64 a0, .int .i64 b0, .int .i64 a1, .int .i64 b1], .int .i64 at_, .bool up] w fun e w' =>
      e = .returned (.tuple #[.int .i64 (sideOf ⟨r, h, a0, b0, a1, b1⟩ at_ up).1, .int .i64 (sideOf ⟨r, h, a0, b0, a1, b1⟩ at_ up).2]) ∧ Q w w' := by
  obtain ⟨i1, i2, i3, i4, i5⟩ := hI
  simp only at i1 i2 i3 i4 i5
  have c1 := fun w => in_any a0 0 20000 w
  have c2 := fun w => in_any a1 0 20000 w
  have c3 := fun w => in_any b0 0 20000 w
  have c4 := fun w => in_any b1 0 20000 w
  have hno : ¬ (1 ≤ h ∧ inB a0 0 20000 = true ∧ inB a1 0 20000 = true ∧ inB b0 0 20000 = true ∧ inB b1 0 20000 = true) → sideOf ⟨r, h, a0, b0, a1, b1⟩ at_ up = (0, 0) := fun c => if_neg c
  by_cases hh : h < 1
  · have hB : decide (h < 1) = true := decide_eq_true hh
    rw [hno (fun x => by omega)]
    clear hno
    go_enter Try.func67, Try.ntmps67
    go_wp2
    go_ret2
    exact ⟨rfl, (Q.refl w).alloc _ _⟩
  have hB : decide (h < 1) = false := decide_eq_false hh
  have ways1 : inB a0 0 20000 = false ∨ inB a0 0 20000 = true := by cases inB a0 0 20000 <;> simp
  rcases ways1 with q1 | q1
  · rw [hno (fun x => by have y := x.2; simp [q1] at y)]
    rw [q1] at c1
    clear hno
    go_enter Try.func67, Try.ntmps67
    go_wp2_with fail
    refine (c1 _).mono ?_
    rintro e w1 ⟨rfl, rfl⟩
    go_wp2
    go_ret2
    exact ⟨rfl, (Q.refl w).alloc _ _⟩
  rw [q1] at c1
  have ways2 : inB a1 0 20000 = false ∨ inB a1 0 20000 = true := by cases inB a1 0 20000 <;> simp
  rcases ways2 with q2 | q2
  · rw [hno (fun x => by have y := x.2; simp [q2] at y)]
    rw [q2] at c2
    clear hno
    go_enter Try.func67, Try.ntmps67
    go_wp2_with fail
    refine (c1 _).mono ?_
    rintro e w1 ⟨rfl, rfl⟩
    go_wp2_with fail
    refine (c2 _).mono ?_
    rintro e w1 ⟨rfl, rfl⟩
    go_wp2
    go_ret2
    exact ⟨rfl, (Q.refl w).alloc _ _⟩
  rw [q2] at c2
  have ways3 : inB b0 0 20000 = false ∨ inB b0 0 20000 = true := by cases inB b0 0 20000 <;> simp
  rcases ways3 with q3 | q3
  · rw [hno (fun x => by have y := x.2; simp [q3] at y)]
    rw [q3] at c3
    clear hno
    go_enter Try.func67, Try.ntmps67
    go_wp2_with fail
    refine (c1 _).mono ?_
    rintro e w1 ⟨rfl, rfl⟩
    go_wp2_with fail
    refine (c2 _).mono ?_
    rintro e w1 ⟨rfl, rfl⟩
    go_wp2_with fail
    refine (c3 _).mono ?_
    rintro e w1 ⟨rfl, rfl⟩
    go_wp2
    go_ret2
    exact ⟨rfl, (Q.refl w).alloc _ _⟩
  rw [q3] at c3
  have ways4 : inB b1 0 20000 = false ∨ inB b1 0 20000 = true := by cases inB b1 0 20000 <;> simp
  rcases ways4 with q4 | q4
  · rw [hno (fun x => by have y := x.2; simp [q4] at y)]
    rw [q4] at c4
    clear hno
    go_enter Try.func67, Try.ntmps67
    go_wp2_with fail
    refine (c1 _).mono ?_
    rintro e w1 ⟨rfl, rfl⟩
    go_wp2_with fail
    refine (c2 _).mono ?_
    rintro e w1 ⟨rfl, rfl⟩
    go_wp2_with fail
    refine (c3 _).mono ?_
    rintro e w1 ⟨rfl, rfl⟩
    go_wp2_with fail
    refine (c4 _).mono ?_
    rintro e w1 ⟨rfl, rfl⟩
    go_wp2
    go_ret2
    exact ⟨rfl, (Q.refl w).alloc _ _⟩
  rw [q4] at c4
  have e : sideOf ⟨r, h, a0, b0, a1, b1⟩ at_ up = (sideM a0 a1 (min (max at_ 0) h) h up, if r then 0 else sideM b0 b1 (min (max at_ 0) h) h up) := if_pos ⟨by simp only; omega, q1, q2, q3, q4⟩
  rw [e]
  clear e hno
  rw [inB_iff] at q1 q2 q3 q4
  obtain ⟨p, hp⟩ : ∃ p, max at_ 0 = p := ⟨_, rfl⟩
  obtain ⟨q, hq⟩ : ∃ q, min p h = q := ⟨_, rfl⟩
  rw [hp, hq]
  have d1 := fun w => straight_any a0 a1 q h up q1.1 q1.2 q2.1 q2.2 (by omega) (by omega) (by omega) i1 w
  have d2 := fun w => straight_any b0 b1 q h up q3.1 q3.2 q4.1 q4.2 (by omega) (by omega) (by omega) i1 w
  generalize sideM a0 a1 q h up = A at *
  generalize sideM b0 b1 q h up = D at *
  clear q1 q2 q3 q4 i1 i2 i3 i4 i5 _hat hh
  cases r
  · go_enter Try.func67, Try.ntmps67
    go_wp2_with fail
    refine (c1 _).mono ?_
    rintro e w1 ⟨rfl, rfl⟩
    go_wp2_with fail
    refine (c2 _).mono ?_
    rintro e w1 ⟨rfl, rfl⟩
    go_wp2_with fail
    refine (c3 _).mono ?_
    rintro e w1 ⟨rfl, rfl⟩
    go_wp2_with fail
    refine (c4 _).mono ?_
    rintro e w1 ⟨rfl, rfl⟩
    go_wp2_with fail
    have g := Q.refl (w.alloc (.cells #[.bool false, .int .i64 h, .int .i64 a0, .int .i64 b0, .int .i64 a1, .int .i64 b1] 102))
    have g0 := (Q.refl w).alloc #[.bool false, .int .i64 h, .int .i64 a0, .int .i64 b0, .int .i64 a1, .int .i64 b1] 102
    have z0 : (w.alloc (.cells #[.bool false, .int .i64 h, .int .i64 a0, .int .i64 b0, .int .i64 a1, .int .i64 b1] 102)).cell? ⟨w.heap.size, 0, none⟩ = some (.bool false) := by simp [go_sem]
    have z1 : (w.alloc (.cells #[.bool false, .int .i64 h, .int .i64 a0, .int .i64 b0, .int .i64 a1, .int .i64 b1] 102)).cell? ⟨w.heap.size, 1, none⟩ = some (.int .i64 h) := by simp [go_sem]
    have z2 : (w.alloc (.cells #[.bool false, .int .i64 h, .int .i64 a0, .int .i64 b0, .int .i64 a1, .int .i64 b1] 102)).cell? ⟨w.heap.size, 2, none⟩ = some (.int .i64 a0) := by simp [go_sem]
    have z3 : (w.alloc (.cells #[.bool false, .int .i64 h, .int .i64 a0, .int .i64 b0, .int .i64 a1, .int .i64 b1] 102)).cell? ⟨w.heap.size, 3, none⟩ = some (.int .i64 b0) := by simp [go_sem]
    have z4 : (w.alloc (.cells #[.bool false, .int .i64 h, .int .i64 a0, .int .i64 b0, .int .i64 a1, .int .i64 b1] 102)).cell? ⟨w.heap.size, 4, none⟩ = some (.int .i64 a1) := by simp [go_sem]
    have z5 : (w.alloc (.cells #[.bool false, .int .i64 h, .int .i64 a0, .int .i64 b0, .int .i64 a1, .int .i64 b1] 102)).cell? ⟨w.heap.size, 5, none⟩ = some (.int .i64 b1) := by simp [go_sem]
    generalize w.alloc (.cells #[.bool false, .int .i64 h, .int .i64 a0, .int .i64 b0, .int .i64 a1, .int .i64 b1] 102) = WW at *
    obtain ⟨BB, hBB⟩ : ∃ BB, w.heap.size = BB := ⟨_, rfl⟩
    rw [hBB] at z0 z1 z2 z3 z4 z5
    try rw [hBB]
    refine wp_region_noPanic ?_
    refine wp_region_seq (S := fun w' => w'.cell? ⟨BB, 0, none⟩ = some (.bool false) ∧ w'.cell? ⟨BB, 1, none⟩ = some (.int .i64 h) ∧ w'.cell? ⟨BB, 2, none⟩ = some (.int .i64 a0) ∧ w'.cell? ⟨BB, 3, none⟩ = some (.int .i64 b0) ∧ w'.cell? ⟨BB, 4, none⟩ = some (.int .i64 a1) ∧ w'.cell? ⟨BB, 5, none⟩ = some (.int .i64 b1) ∧ Q WW w') [(0, 0), (1, 0), (2, 0), (3, 0), (4, 0), (5, 0), (6, 0), (7, 0), (9, 0), (10, 0), (11, 0), (12, 0), (13, 0), (14, 0), (15, 0), (16, 0), (8, 2), (17, 2), (18, 0), (19, 0)] [0, 1, 0, 4, 0, 0, 32, 0, 218, 0, 512, 0, 2048, 0, 0, 16384, 0, 111872, 131583, 524287] [0, 1, 0, 4, 0, 0, 32, 0, 218, 0, 512, 0, 2048, 0, 0, 16384, 0, 111616, 256, 131072] (by kernel_rfl) (by kernel_rfl) (fun _ _ _ _ _ h => h) ?_ (fun hH => ?_)
    · exact ⟨by simp [go_sem, z0], by simp [go_sem, z1], by simp [go_sem, z2], by simp [go_sem, z3], by simp [go_sem, z4], by simp [go_sem, z5], g.drew⟩
    refine wpSeq_take (d := 42) (v := ?_) rfl rfl (by kernel_rfl) (fun w hS => ?_) ?_
    rotate_left
    · go_simp <;> with_reducible rfl
    dsimp only [List.set_cons_zero, List.set_cons_succ]
    refine wpSeq_take (d := 43) (v := ?_) rfl rfl (by kernel_rfl) (fun w hS => ?_) ?_
    rotate_left
    · go_simp <;> with_reducible rfl
    dsimp only [List.set_cons_zero, List.set_cons_succ]
    refine wpSeq_take (d := 44) (v := ?_) rfl rfl (by kernel_rfl) (fun w hS => ?_) ?_
    rotate_left
    · go_simp <;> with_reducible rfl
    dsimp only [List.set_cons_zero, List.set_cons_succ]
    refine wpSeq_take (d := 45) (v := ?_) rfl rfl (by kernel_rfl) (fun w hS => ?_) ?_
    rotate_left
    · go_simp <;> with_reducible rfl
    dsimp only [List.set_cons_zero, List.set_cons_succ]
    refine wpSeq_take (d := 46) (v := ?_) rfl rfl (by kernel_rfl) (fun w hS => ?_) ?_
    rotate_left
    · go_simp <;> with_reducible rfl
    dsimp only [List.set_cons_zero, List.set_cons_succ]
    refine wpSeq_take (d := 47) (v := ?_) rfl rfl (by kernel_rfl) (fun w hS => ?_) ?_
    rotate_left
    · go_simp <;> with_reducible rfl
    dsimp only [List.set_cons_zero, List.set_cons_succ]
    refine wpSeq_take (d := 48) (v := ?_) rfl rfl (by kernel_rfl) (fun w hS => ?_) ?_
    rotate_left
    · go_simp <;> with_reducible rfl
    dsimp only [List.set_cons_zero, List.set_cons_succ]
    refine wpSeq_take (d := 49) (v := ?_) rfl rfl (by kernel_rfl) (fun w hS => ?_) ?_
    rotate_left
    · go_simp <;> with_reducible rfl
    dsimp only [List.set_cons_zero, List.set_cons_succ]
    refine wpSeq_take (d := 51) (v := ?_) rfl rfl (by kernel_rfl) (fun w hS => ?_) ?_
    rotate_left
    · go_simp <;> with_reducible rfl
    dsimp only [List.set_cons_zero, List.set_cons_succ]
    refine wpSeq_take (d := 52) (v := ?_) rfl rfl (by kernel_rfl) (fun w hS => ?_) ?_
    rotate_left
    · go_simp <;> with_reducible rfl
    dsimp only [List.set_cons_zero, List.set_cons_succ]
    refine wpSeq_take (d := 53) (v := ?_) rfl rfl (by kernel_rfl) (fun w hS => ?_) ?_
    rotate_left
    · go_simp <;> with_reducible rfl
    dsimp only [List.set_cons_zero, List.set_cons_succ]
    refine wpSeq_take (d := 54) (v := ?_) rfl rfl (by kernel_rfl) (fun w hS => ?_) ?_
    rotate_left
    · go_simp <;> with_reducible rfl
    dsimp only [List.set_cons_zero, List.set_cons_succ]
    refine wpSeq_take (d := 55) (v := ?_) rfl rfl (by kernel_rfl) (fun w hS => ?_) ?_
    rotate_left
    · go_simp <;> with_reducible rfl
    dsimp only [List.set_cons_zero, List.set_cons_succ]
    refine wpSeq_take (d := 56) (v := ?_) rfl rfl (by kernel_rfl) (fun w hS => ?_) ?_
    rotate_left
    · go_simp <;> with_reducible rfl
    dsimp only [List.set_cons_zero, List.set_cons_succ]
    refine wpSeq_take (d := 57) (v := ?_) rfl rfl (by kernel_rfl) (fun w hS => ?_) ?_
    rotate_left
    · go_simp <;> with_reducible rfl
    dsimp only [List.set_cons_zero, List.set_cons_succ]
    refine wpSeq_take (d := 58) (v := ?_) rfl rfl (by kernel_rfl) (fun w hS => ?_) ?_
    rotate_left
    · go_simp <;> with_reducible rfl
    dsimp only [List.set_cons_zero, List.set_cons_succ]
    refine wpSeq_call rfl (by kernel_rfl) (fun K hK => ?_)
    go_simp
    (with_reducible refine (d1 _).mono ?_)
    rintro e w' ⟨rfl, hq⟩
    refine hK.out _ _ ?_ (fun hH => ?_)
    · exact ⟨hq.keep hH.1, hq.keep hH.2.1, hq.keep hH.2.2.1, hq.keep hH.2.2.2.1, hq.keep hH.2.2.2.2.1, hq.keep hH.2.2.2.2.2.1, hH.2.2.2.2.2.2.trans hq⟩
    clear hK
    refine wpSeq_call rfl (by kernel_rfl) (fun K hK => ?_)
    go_simp
    (with_reducible refine (d2 _).mono ?_)
    rintro e w' ⟨rfl, hq⟩
    refine hK.out _ _ ?_ (fun hH => ?_)
    · exact ⟨hq.keep hH.1, hq.keep hH.2.1, hq.keep hH.2.2.1, hq.keep hH.2.2.2.1, hq.keep hH.2.2.2.2.1, hq.keep hH.2.2.2.2.2.1, hH.2.2.2.2.2.2.trans hq⟩
    clear hK
    refine wpSeq_take (d := 8) (v := ?_) rfl rfl (by kernel_rfl) (fun w hS => ?_) ?_
    rotate_left
    · go_simp <;> with_reducible rfl
    dsimp only [List.set_cons_zero, List.set_cons_succ]
    refine wpSeq_take (d := 9) (v := ?_) rfl rfl (by kernel_rfl) (fun w hS => ?_) ?_
    rotate_left
    · go_simp <;> with_reducible rfl
    dsimp only [List.set_cons_zero, List.set_cons_succ]
    refine wpSeq_done ?_
    refine NoPanic.normal ?_
    obtain ⟨z0, z1, z2, z3, z4, z5, g1⟩ := hH
    go_wp2
    go_ret2
    exact ⟨by simp, g0.trans g1⟩
  · go_enter Try.func67, Try.ntmps67
    go_wp2_with fail
    refine (c1 _).mono ?_
    rintro e w1 ⟨rfl, rfl⟩
    go_wp2_with fail
    refine (c2 _).mono ?_
    rintro e w1 ⟨rfl, rfl⟩
    go_wp2_with fail
    refine (c3 _).mono ?_
    rintro e w1 ⟨rfl, rfl⟩
    go_wp2_with fail
    refine (c4 _).mono ?_
    rintro e w1 ⟨rfl, rfl⟩
    go_wp2_with fail
    have g := Q.refl (w.alloc (.cells #[.bool true, .int .i64 h, .int .i64 a0, .int .i64 b0, .int .i64 a1, .int .i64 b1] 102))
    have g0 := (Q.refl w).alloc #[.bool true, .int .i64 h, .int .i64 a0, .int .i64 b0, .int .i64 a1, .int .i64 b1] 102
    have z0 : (w.alloc (.cells #[.bool true, .int .i64 h, .int .i64 a0, .int .i64 b0, .int .i64 a1, .int .i64 b1] 102)).cell? ⟨w.heap.size, 0, none⟩ = some (.bool true) := by simp [go_sem]
    have z1 : (w.alloc (.cells #[.bool true, .int .i64 h, .int .i64 a0, .int .i64 b0, .int .i64 a1, .int .i64 b1] 102)).cell? ⟨w.heap.size, 1, none⟩ = some (.int .i64 h) := by simp [go_sem]
    have z2 : (w.alloc (.cells #[.bool true, .int .i64 h, .int .i64 a0, .int .i64 b0, .int .i64 a1, .int .i64 b1] 102)).cell? ⟨w.heap.size, 2, none⟩ = some (.int .i64 a0) := by simp [go_sem]
    have z3 : (w.alloc (.cells #[.bool true, .int .i64 h, .int .i64 a0, .int .i64 b0, .int .i64 a1, .int .i64 b1] 102)).cell? ⟨w.heap.size, 3, none⟩ = some (.int .i64 b0) := by simp [go_sem]
    have z4 : (w.alloc (.cells #[.bool true, .int .i64 h, .int .i64 a0, .int .i64 b0, .int .i64 a1, .int .i64 b1] 102)).cell? ⟨w.heap.size, 4, none⟩ = some (.int .i64 a1) := by simp [go_sem]
    have z5 : (w.alloc (.cells #[.bool true, .int .i64 h, .int .i64 a0, .int .i64 b0, .int .i64 a1, .int .i64 b1] 102)).cell? ⟨w.heap.size, 5, none⟩ = some (.int .i64 b1) := by simp [go_sem]
    generalize w.alloc (.cells #[.bool true, .int .i64 h, .int .i64 a0, .int .i64 b0, .int .i64 a1, .int .i64 b1] 102) = WW at *
    obtain ⟨BB, hBB⟩ : ∃ BB, w.heap.size = BB := ⟨_, rfl⟩
    rw [hBB] at z0 z1 z2 z3 z4 z5
    try rw [hBB]
    refine wp_region_noPanic ?_
    refine wp_region_seq (S := fun w' => w'.cell? ⟨BB, 0, none⟩ = some (.bool true) ∧ w'.cell? ⟨BB, 1, none⟩ = some (.int .i64 h) ∧ w'.cell? ⟨BB, 2, none⟩ = some (.int .i64 a0) ∧ w'.cell? ⟨BB, 3, none⟩ = some (.int .i64 b0) ∧ w'.cell? ⟨BB, 4, none⟩ = some (.int .i64 a1) ∧ w'.cell? ⟨BB, 5, none⟩ = some (.int .i64 b1) ∧ Q WW w') [(0, 0), (1, 0), (2, 0), (3, 0), (4, 0), (5, 0), (6, 0), (7, 0), (9, 0), (10, 0), (11, 0), (12, 0), (13, 0), (14, 0), (15, 0), (16, 0), (8, 2), (17, 2), (18, 0), (19, 0)] [0, 1, 0, 4, 0, 0, 32, 0, 218, 0, 512, 0, 2048, 0, 0, 16384, 0, 111872, 131583, 524287] [0, 1, 0, 4, 0, 0, 32, 0, 218, 0, 512, 0, 2048, 0, 0, 16384, 0, 111616, 256, 131072] (by kernel_rfl) (by kernel_rfl) (fun _ _ _ _ _ h => h) ?_ (fun hH => ?_)
    · exact ⟨by simp [go_sem, z0], by simp [go_sem, z1], by simp [go_sem, z2], by simp [go_sem, z3], by simp [go_sem, z4], by simp [go_sem, z5], g.drew⟩
    refine wpSeq_take (d := 42) (v := ?_) rfl rfl (by kernel_rfl) (fun w hS => ?_) ?_
    rotate_left
    · go_simp <;> with_reducible rfl
    dsimp only [List.set_cons_zero, List.set_cons_succ]
    refine wpSeq_take (d := 43) (v := ?_) rfl rfl (by kernel_rfl) (fun w hS => ?_) ?_
    rotate_left
    · go_simp <;> with_reducible rfl
    dsimp only [List.set_cons_zero, List.set_cons_succ]
    refine wpSeq_take (d := 44) (v := ?_) rfl rfl (by kernel_rfl) (fun w hS => ?_) ?_
    rotate_left
    · go_simp <;> with_reducible rfl
    dsimp only [List.set_cons_zero, List.set_cons_succ]
    refine wpSeq_take (d := 45) (v := ?_) rfl rfl (by kernel_rfl) (fun w hS => ?_) ?_
    rotate_left
    · go_simp <;> with_reducible rfl
    dsimp only [List.set_cons_zero, List.set_cons_succ]
    refine wpSeq_take (d := 46) (v := ?_) rfl rfl (by kernel_rfl) (fun w hS => ?_) ?_
    rotate_left
    · go_simp <;> with_reducible rfl
    dsimp only [List.set_cons_zero, List.set_cons_succ]
    refine wpSeq_take (d := 47) (v := ?_) rfl rfl (by kernel_rfl) (fun w hS => ?_) ?_
    rotate_left
    · go_simp <;> with_reducible rfl
    dsimp only [List.set_cons_zero, List.set_cons_succ]
    refine wpSeq_take (d := 48) (v := ?_) rfl rfl (by kernel_rfl) (fun w hS => ?_) ?_
    rotate_left
    · go_simp <;> with_reducible rfl
    dsimp only [List.set_cons_zero, List.set_cons_succ]
    refine wpSeq_take (d := 49) (v := ?_) rfl rfl (by kernel_rfl) (fun w hS => ?_) ?_
    rotate_left
    · go_simp <;> with_reducible rfl
    dsimp only [List.set_cons_zero, List.set_cons_succ]
    refine wpSeq_take (d := 51) (v := ?_) rfl rfl (by kernel_rfl) (fun w hS => ?_) ?_
    rotate_left
    · go_simp <;> with_reducible rfl
    dsimp only [List.set_cons_zero, List.set_cons_succ]
    refine wpSeq_take (d := 52) (v := ?_) rfl rfl (by kernel_rfl) (fun w hS => ?_) ?_
    rotate_left
    · go_simp <;> with_reducible rfl
    dsimp only [List.set_cons_zero, List.set_cons_succ]
    refine wpSeq_take (d := 53) (v := ?_) rfl rfl (by kernel_rfl) (fun w hS => ?_) ?_
    rotate_left
    · go_simp <;> with_reducible rfl
    dsimp only [List.set_cons_zero, List.set_cons_succ]
    refine wpSeq_take (d := 54) (v := ?_) rfl rfl (by kernel_rfl) (fun w hS => ?_) ?_
    rotate_left
    · go_simp <;> with_reducible rfl
    dsimp only [List.set_cons_zero, List.set_cons_succ]
    refine wpSeq_take (d := 55) (v := ?_) rfl rfl (by kernel_rfl) (fun w hS => ?_) ?_
    rotate_left
    · go_simp <;> with_reducible rfl
    dsimp only [List.set_cons_zero, List.set_cons_succ]
    refine wpSeq_take (d := 56) (v := ?_) rfl rfl (by kernel_rfl) (fun w hS => ?_) ?_
    rotate_left
    · go_simp <;> with_reducible rfl
    dsimp only [List.set_cons_zero, List.set_cons_succ]
    refine wpSeq_take (d := 57) (v := ?_) rfl rfl (by kernel_rfl) (fun w hS => ?_) ?_
    rotate_left
    · go_simp <;> with_reducible rfl
    dsimp only [List.set_cons_zero, List.set_cons_succ]
    refine wpSeq_take (d := 58) (v := ?_) rfl rfl (by kernel_rfl) (fun w hS => ?_) ?_
    rotate_left
    · go_simp <;> with_reducible rfl
    dsimp only [List.set_cons_zero, List.set_cons_succ]
    refine wpSeq_call rfl (by kernel_rfl) (fun K hK => ?_)
    go_simp
    (with_reducible refine (d1 _).mono ?_)
    rintro e w' ⟨rfl, hq⟩
    refine hK.out _ _ ?_ (fun hH => ?_)
    · exact ⟨hq.keep hH.1, hq.keep hH.2.1, hq.keep hH.2.2.1, hq.keep hH.2.2.2.1, hq.keep hH.2.2.2.2.1, hq.keep hH.2.2.2.2.2.1, hH.2.2.2.2.2.2.trans hq⟩
    clear hK
    refine wpSeq_call rfl (by kernel_rfl) (fun K hK => ?_)
    go_simp
    (with_reducible refine (d2 _).mono ?_)
    rintro e w' ⟨rfl, hq⟩
    refine hK.out _ _ ?_ (fun hH => ?_)
    · exact ⟨hq.keep hH.1, hq.keep hH.2.1, hq.keep hH.2.2.1, hq.keep hH.2.2.2.1, hq.keep hH.2.2.2.2.1, hq.keep hH.2.2.2.2.2.1, hH.2.2.2.2.2.2.trans hq⟩
    clear hK
    refine wpSeq_take (d := 8) (v := ?_) rfl rfl (by kernel_rfl) (fun w hS => ?_) ?_
    rotate_left
    · go_simp <;> with_reducible rfl
    dsimp only [List.set_cons_zero, List.set_cons_succ]
    refine wpSeq_take (d := 9) (v := ?_) rfl rfl (by kernel_rfl) (fun w hS => ?_) ?_
    rotate_left
    · go_simp <;> with_reducible rfl
    dsimp only [List.set_cons_zero, List.set_cons_succ]
    refine wpSeq_done ?_
    refine NoPanic.normal ?_
    obtain ⟨z0, z1, z2, z3, z4, z5, g1⟩ := hH
    go_wp2
    go_ret2
    exact ⟨by simp, g0.trans g1⟩
end Go.Proofs.Ytnmcgleanpdlmaa
