/-
  Plain mathematics of a division of 128 bits by 64: one digit at a time (base 2^32). No program is named here.
-/
import Derived.Test.YtkiepmfknbbeaaaQm
import Derived.Lib.BitFns
namespace Go.Proofs.Ytkiepmfknbbeaaa

/-- One digit: q is above or at the true digit, and r is what is left of u behind it. -/
structure Dig (u a b c q r : Nat) : Prop where
  rest : u = q * a + r
  up : (u * 4294967296 + c) / (a * 4294967296 + b) ≤ q
  few : q ≤ 4294967297

theorem dig_first (u a b c : Nat) (ha : 2147483648 ≤ a) (hb : b < 4294967296) (hc : c < 4294967296) (hu : u < a * 4294967296 + b) :
    Dig u a b c (u / a) (u - u / a * a) := by
  have hle := Nat.div_mul_le_self u a
  refine ⟨by omega, ?_, ?_⟩
  · rw [Nat.le_div_iff_mul_le (by omega)]
    -- q * a ≤ u, for q * (a * B + b) ≤ u * B + c
    have h := Nat.div_mul_le_self (u * 4294967296 + c) (a * 4294967296 + b)
    generalize (u * 4294967296 + c) / (a * 4294967296 + b) = q at *
    rw [Nat.mul_add, ← Nat.mul_assoc] at h
    generalize q * a = x at *
    generalize q * b = z at *
    omega
  · rw [← Nat.lt_succ_iff, Nat.div_lt_iff_lt_mul (by omega)]
    omega

/-- The true digit is below 2^32. -/
theorem dig_small (u a b c : Nat) (hc : c < 4294967296) (hu : u < a * 4294967296 + b) : (u * 4294967296 + c) / (a * 4294967296 + b) < 4294967296 := by
  rw [Nat.div_lt_iff_lt_mul (by omega)]; omega

/-- The digit is too great: one less, and what is left is more. -/
theorem Dig.next {u a b c q r : Nat} (hc : c < 4294967296) (hu : u < a * 4294967296 + b) (d : Dig u a b c q r) (h : 4294967296 ≤ q ∨ 4294967296 * r + c < q * b) :
    1 ≤ q ∧ Dig u a b c (q - 1) (r + a) := by
  have hs := dig_small u a b c hc hu
  have hq : (u * 4294967296 + c) / (a * 4294967296 + b) < q := by
    rcases h with h | h
    · omega
    · rw [Nat.div_lt_iff_lt_mul (show 0 < a * 4294967296 + b by omega), Nat.mul_add, ← Nat.mul_assoc]
      have := d.rest
      generalize q * a = x at *
      generalize q * b = z at *
      omega
  have hq1 : 0 < q := Nat.lt_of_le_of_lt (Nat.zero_le _) hq
  have hup : (u * 4294967296 + c) / (a * 4294967296 + b) ≤ q - 1 := Nat.le_sub_one_of_lt hq
  obtain ⟨p, rfl⟩ : ∃ p, q = p + 1 := ⟨q - 1, by omega⟩
  refine ⟨by omega, ⟨?_, hup, by have := d.few; omega⟩⟩
  have := d.rest
  rw [Nat.add_mul] at this
  simp only [Nat.add_sub_cancel]
  omega

/-- The digit is right. -/
theorem Dig.done {u a b c q r : Nat} (hb : b < 4294967296) (hu : u < a * 4294967296 + b) (d : Dig u a b c q r) (h : (q < 4294967296 ∧ q * b ≤ 4294967296 * r + c) ∨ (4294967296 ≤ r ∧ q ≤ 4294967296)) :
    q = (u * 4294967296 + c) / (a * 4294967296 + b) := by
  refine Nat.le_antisymm ?_ d.up
  rw [Nat.le_div_iff_mul_le (by omega), Nat.mul_add, ← Nat.mul_assoc]
  have hr := d.rest
  have hz : q * b ≤ 4294967296 * r + c := by
    rcases h with h | h
    · exact h.2
    · have : q * b ≤ 4294967296 * 4294967295 := Nat.mul_le_mul h.2 (by omega)
      omega
  generalize q * a = x at *
  generalize q * b = z at *
  omega

theorem two_digits (x c y B : Nat) (hy : 0 < y) : (x * B + c) / y = x / y * B + (x % y * B + c) / y ∧ (x * B + c) % y = (x % y * B + c) % y := by
  have e : x * B + c = (x % y * B + c) + y * (x / y * B) := by
    conv => lhs; rw [← Nat.div_add_mod x y]
    rw [Nat.add_mul, Nat.mul_assoc]; omega
  constructor
  · conv => lhs; rw [e]
    rw [Nat.add_mul_div_left _ _ hy]; omega
  · conv => lhs; rw [e]
    rw [Nat.add_mul_mod_self_left]

/-- The whole: of hi, lo, y, made long by s, the two digits make the quotient; what is left behind them, made short again, is the rest. -/
theorem div_whole (hi lo y s : Nat) (hs : s ≤ 63) (hlo : lo < 18446744073709551616) (hhy : hi < y) :
    let Y := y * 2 ^ s
    let U := hi * 2 ^ s + lo / 2 ^ (64 - s)
    let L := lo * 2 ^ s % 18446744073709551616
    let q1 := (U * 4294967296 + L / 4294967296) / Y
    let R := (U * 4294967296 + L / 4294967296) % Y
    let q0 := (R * 4294967296 + L % 4294967296) / Y
    let E := (R * 4294967296 + L % 4294967296) % Y
    U < Y ∧ q1 * 4294967296 + q0 = (hi * 18446744073709551616 + lo) / y ∧ E / 2 ^ s = (hi * 18446744073709551616 + lo) % y := by
  have hp : 0 < 2 ^ s := Nat.two_pow_pos s
  have hY : 0 < y * 2 ^ s := Nat.mul_pos (by omega) hp
  have h64 : (18446744073709551616 : Nat) = 2 ^ (64 - s) * 2 ^ s := by rw [← Nat.pow_add, show 64 - s + s = 64 from by omega]
  have hN : (hi * 18446744073709551616 + lo) * 2 ^ s = (hi * 2 ^ s + lo / 2 ^ (64 - s)) * 18446744073709551616 + lo * 2 ^ s % 18446744073709551616 := by
    have hm : lo * 2 ^ s / 18446744073709551616 = lo / 2 ^ (64 - s) := by rw [h64, Nat.mul_div_mul_right _ _ hp]
    have := Nat.div_add_mod (lo * 2 ^ s) 18446744073709551616
    rw [hm] at this
    rw [Nat.add_mul, Nat.add_mul, ← this, Nat.mul_right_comm]; omega
  have hd := two_digits ((hi * 2 ^ s + lo / 2 ^ (64 - s)) * 4294967296 + lo * 2 ^ s % 18446744073709551616 / 4294967296) (lo * 2 ^ s % 18446744073709551616 % 4294967296) (y * 2 ^ s) 4294967296 hY
  have hX : ((hi * 2 ^ s + lo / 2 ^ (64 - s)) * 4294967296 + lo * 2 ^ s % 18446744073709551616 / 4294967296) * 4294967296 + lo * 2 ^ s % 18446744073709551616 % 4294967296 = (hi * 18446744073709551616 + lo) * 2 ^ s := by
    rw [hN]; omega
  rw [hX, Nat.mul_div_mul_right _ _ hp, Nat.mul_mod_mul_right] at hd
  refine ⟨?_, hd.1.symm, ?_⟩
  · have h1 : lo / 2 ^ (64 - s) < 2 ^ s := by rw [Nat.div_lt_iff_lt_mul (Nat.two_pow_pos _), Nat.mul_comm, ← h64]; exact hlo
    have h2 : (hi + 1) * 2 ^ s ≤ y * 2 ^ s := Nat.mul_le_mul_right _ hhy
    rw [Nat.add_mul] at h2
    omega
  · show _ % (y * 2 ^ s) / 2 ^ s = _
    rw [← hd.2, Nat.mul_div_cancel _ hp]

theorem pow_parts (s : Nat) (hs : s ≤ 63) : 2 ^ (63 - s) * 2 ^ s = 9223372036854775808 ∧ 2 ^ (63 - s) * 2 * 2 ^ s = 18446744073709551616 := by
  have h : 2 ^ (63 - s) * 2 ^ s = 9223372036854775808 := by rw [← Nat.pow_add, show 63 - s + s = 63 from by omega]
  exact ⟨h, by rw [Nat.mul_right_comm, h]⟩
theorem bitLen_of (y s : Nat) (h1 : 9223372036854775808 ≤ y * 2 ^ s) (h2 : y * 2 ^ s < 18446744073709551616) (hs : s ≤ 63) : (64 : Int) - (Lib.bitLen y : Int) = (s : Int) := by
  obtain ⟨e1, e2⟩ := pow_parts s hs
  have hp := Nat.two_pow_pos s
  rw [← e1] at h1
  rw [← e2] at h2
  have l1 := Nat.le_of_mul_le_mul_right h1 hp
  have l2 := Nat.lt_of_mul_lt_mul_right h2
  have l3 : 2 ^ (63 - s) * 2 ≤ 2 ^ 64 := by
    have : 2 ^ (63 - s) ≤ 2 ^ 63 := Nat.pow_le_pow_right (by omega) (by omega)
    omega
  have h := Lib.bitLen_shift (63 - s) y l1 (by omega)
  have q : y / 2 ^ (63 - s) = 1 := Nat.div_eq_of_lt_le (by omega) (by omega)
  rw [q, show Lib.bitLen 1 = 1 from by decide +kernel] at h
  omega
theorem exists_s (y : Nat) (h0 : 0 < y) (h1 : y < 18446744073709551616) : ∃ s, s ≤ 63 ∧ 9223372036854775808 ≤ y * 2 ^ s ∧ y * 2 ^ s < 18446744073709551616 := by
  have a := Nat.log2_self_le (n := y) (by omega)
  have b := Nat.lt_log2_self (n := y)
  have c : y.log2 < 64 := (Nat.log2_lt (by omega)).2 h1
  obtain ⟨e1, e2⟩ := pow_parts (63 - y.log2) (by omega)
  rw [show 63 - (63 - y.log2) = y.log2 from by omega] at e1 e2
  have hp := Nat.two_pow_pos (63 - y.log2)
  refine ⟨63 - y.log2, by omega, ?_, ?_⟩
  · rw [← e1]; exact Nat.mul_le_mul_right _ a
  · rw [← e2]; rw [Nat.pow_succ] at b; exact Nat.mul_lt_mul_of_pos_right b hp

theorem wrapU (n : Int) : IntKind.u64.wrap n = n % 18446744073709551616 := IntKind.wrap_u64 n
theorem wrapN (a : Nat) (ha : a < 18446744073709551616) : IntKind.u64.wrap (a : Int) = (a : Int) := by rw [IntKind.wrap_u64]; omega
theorem wrapM (a : Nat) : IntKind.u64.wrap (a : Int) = ((a % 18446744073709551616 : Nat) : Int) := by rw [IntKind.wrap_u64]; omega
theorem maskN (a : Nat) (ha : a < 18446744073709551616) : bits .and .u64 (a : Int) 4294967295 = ((a % 4294967296 : Nat) : Int) := by
  have h := bits_and_u64_nat a 4294967295 ha (by omega)
  have e : a &&& 4294967295 = a % 4294967296 := Nat.and_two_pow_sub_one_eq_mod a 32
  rw [e] at h
  exact h
theorem or_join (s x y : Nat) (hx : 2 ^ s ∣ x) (hy : y < 2 ^ s) : x ||| y = x + y := by
  obtain ⟨k, rfl⟩ := hx
  rw [Nat.mul_comm, ← Nat.shiftLeft_eq, Nat.shiftLeft_add_eq_or_of_lt hy]

/-- The numbers that the walk meets, ahead of its first loop. -/
theorem div_ahead (hi lo y s : Nat) (hs : s ≤ 63) (h0 : hi < y) (hlo : lo < 18446744073709551616) (h5 : y * 2 ^ s < 18446744073709551616) :
    ∃ Y a b H K U L c d : Nat,
      IntKind.u64.wrap ((y : Int) * 2 ^ s) = (Y : Int) ∧ (Y : Int) / 4294967296 = (a : Int) ∧ bits .and .u64 (Y : Int) 4294967295 = (b : Int) ∧
      IntKind.u64.wrap ((hi : Int) * 2 ^ s) = (H : Int) ∧ (lo : Int) / 2 ^ (64 - s) = (K : Int) ∧ bits .or .u64 (H : Int) (K : Int) = (U : Int) ∧
      IntKind.u64.wrap ((lo : Int) * 2 ^ s) = (L : Int) ∧ (L : Int) / 4294967296 = (c : Int) ∧ bits .and .u64 (L : Int) 4294967295 = (d : Int) ∧
      Y = y * 2 ^ s ∧ Y = a * 4294967296 + b ∧ U = hi * 2 ^ s + lo / 2 ^ (64 - s) ∧ L = lo * 2 ^ s % 18446744073709551616 ∧ c = L / 4294967296 ∧ d = L % 4294967296 ∧ U < Y := by
  have hp := Nat.two_pow_pos s
  have hp' := Nat.two_pow_pos (64 - s)
  have h64 : (18446744073709551616 : Nat) = 2 ^ (64 - s) * 2 ^ s := by rw [← Nat.pow_add, show 64 - s + s = 64 from by omega]
  have hU := (div_whole hi lo y s hs hlo h0).1
  have hH : hi * 2 ^ s < 18446744073709551616 := Nat.lt_of_le_of_lt (Nat.mul_le_mul_right _ (Nat.le_of_lt h0)) h5
  have hK : lo / 2 ^ (64 - s) < 2 ^ s := by rw [Nat.div_lt_iff_lt_mul hp', Nat.mul_comm, ← h64]; exact hlo
  have hK2 : lo / 2 ^ (64 - s) < 18446744073709551616 := Nat.lt_of_le_of_lt (Nat.div_le_self _ _) hlo
  refine ⟨y * 2 ^ s, y * 2 ^ s / 4294967296, y * 2 ^ s % 4294967296, hi * 2 ^ s, lo / 2 ^ (64 - s), hi * 2 ^ s + lo / 2 ^ (64 - s), lo * 2 ^ s % 18446744073709551616, lo * 2 ^ s % 18446744073709551616 / 4294967296, lo * 2 ^ s % 18446744073709551616 % 4294967296, ?_, ?_, ?_, ?_, ?_, ?_, ?_, ?_, ?_, rfl, ?_, rfl, rfl, rfl, rfl, hU⟩
  · rw [show ((y : Int) * 2 ^ s) = ((y * 2 ^ s : Nat) : Int) by push_cast; rfl]; exact wrapN _ h5
  · omega
  · exact maskN _ h5
  · rw [show ((hi : Int) * 2 ^ s) = ((hi * 2 ^ s : Nat) : Int) by push_cast; rfl]; exact wrapN _ hH
  · push_cast; rfl
  · rw [bits_or_u64_nat _ _ hH hK2, or_join s _ _ (Nat.dvd_mul_left _ _) hK]
  · rw [show ((lo : Int) * 2 ^ s) = ((lo * 2 ^ s : Nat) : Int) by push_cast; rfl]; exact wrapM _
  · omega
  · exact maskN _ (Nat.mod_lt _ (by omega))
  · omega

theorem left_num (U c Z R : Nat) (h : Z + R = U * 4294967296 + c) (hR : R < 18446744073709551616) :
    IntKind.u64.wrap (((U * 4294967296 % 18446744073709551616 : Nat) : Int) + (c : Int) - ((Z % 18446744073709551616 : Nat) : Int)) = (R : Int) := by
  rw [wrapU]; omega
/-- What is left behind a digit: the walk reckons it in 64 bits, and it is what it should be. -/
theorem left_behind (U c Y q : Nat) (hc : c < 4294967296) (hY0 : 0 < Y) (hY : Y < 18446744073709551616) (hq : q = (U * 4294967296 + c) / Y) :
    ∃ M Z R : Nat, IntKind.u64.wrap ((U : Int) * 4294967296) = (M : Int) ∧ M + c < 18446744073709551616 ∧ IntKind.u64.wrap ((q : Int) * (Y : Int)) = (Z : Int) ∧
      IntKind.u64.wrap ((M : Int) + (c : Int) - (Z : Int)) = (R : Int) ∧ R < Y ∧ R = (U * 4294967296 + c) % Y := by
  refine ⟨U * 4294967296 % 18446744073709551616, q * Y % 18446744073709551616, (U * 4294967296 + c) % Y, ?_, ?_, ?_, ?_, Nat.mod_lt _ hY0, rfl⟩
  · rw [wrapU]; omega
  · omega
  · rw [show ((q : Int) * (Y : Int)) = ((q * Y : Nat) : Int) by push_cast; rfl]; exact wrapM _
  · have h := Nat.div_add_mod (U * 4294967296 + c) Y
    rw [← hq, Nat.mul_comm] at h
    exact left_num U c (q * Y) _ h (Nat.lt_trans (Nat.mod_lt _ hY0) hY)

/-- The five ways through a round of the search for a digit: twice on, thrice out. -/
theorem dig_ways {u a b c q r : Nat} (hb : b < 4294967296) (hc : c < 4294967296) (hu : u < a * 4294967296 + b) (d : Dig u a b c q r) :
    (decide ((4294967296 : Int) ≤ (q : Int)) = true ∧ decide ((4294967296 : Int) ≤ (r : Int) + (a : Int)) = false ∧ 1 ≤ q ∧ q ≤ 4294967297 ∧ r + a < 4294967296 ∧ Dig u a b c (q - 1) (r + a)) ∨
    (decide ((4294967296 : Int) ≤ (q : Int)) = false ∧ q * b < 18446744073709551616 ∧ decide ((4294967296 : Int) * (r : Int) + (c : Int) < (q : Int) * (b : Int)) = true ∧ decide ((4294967296 : Int) ≤ (r : Int) + (a : Int)) = false ∧ 1 ≤ q ∧ q ≤ 4294967297 ∧ r + a < 4294967296 ∧ Dig u a b c (q - 1) (r + a)) ∨
    (∃ Q : Nat, decide ((4294967296 : Int) ≤ (q : Int)) = true ∧ decide ((4294967296 : Int) ≤ (r : Int) + (a : Int)) = true ∧ 1 ≤ q ∧ q ≤ 4294967297 ∧ (q : Int) - 1 = (Q : Int) ∧ Q = (u * 4294967296 + c) / (a * 4294967296 + b)) ∨
    (∃ Q : Nat, decide ((4294967296 : Int) ≤ (q : Int)) = false ∧ q * b < 18446744073709551616 ∧ decide ((4294967296 : Int) * (r : Int) + (c : Int) < (q : Int) * (b : Int)) = true ∧ decide ((4294967296 : Int) ≤ (r : Int) + (a : Int)) = true ∧ 1 ≤ q ∧ q ≤ 4294967297 ∧ (q : Int) - 1 = (Q : Int) ∧ Q = (u * 4294967296 + c) / (a * 4294967296 + b)) ∨
    (decide ((4294967296 : Int) ≤ (q : Int)) = false ∧ q * b < 18446744073709551616 ∧ decide ((4294967296 : Int) * (r : Int) + (c : Int) < (q : Int) * (b : Int)) = false ∧ q ≤ 4294967297 ∧ q = (u * 4294967296 + c) / (a * 4294967296 + b)) := by
  have hfew := d.few
  by_cases hq : 4294967296 ≤ q
  · obtain ⟨h1, d'⟩ := d.next hc hu (Or.inl hq)
    have hqB : decide ((4294967296 : Int) ≤ (q : Int)) = true := decide_eq_true (by omega)
    by_cases hl : 4294967296 ≤ r + a
    · exact Or.inr (Or.inr (Or.inl ⟨q - 1, hqB, decide_eq_true (by omega), h1, hfew, by omega, d'.done hb hu (Or.inr ⟨hl, by omega⟩)⟩))
    · exact Or.inl ⟨hqB, decide_eq_false (by omega), h1, hfew, by omega, d'⟩
  · have hqb : q * b < 18446744073709551616 := by
      have : q * b ≤ 4294967295 * 4294967295 := Nat.mul_le_mul (by omega) (by omega)
      omega
    have hqB : decide ((4294967296 : Int) ≤ (q : Int)) = false := decide_eq_false (by omega)
    by_cases hz : 4294967296 * r + c < q * b
    · obtain ⟨h1, d'⟩ := d.next hc hu (Or.inr hz)
      have hzB : decide ((4294967296 : Int) * (r : Int) + (c : Int) < (q : Int) * (b : Int)) = true := decide_eq_true (by rw [← Int.natCast_mul q b]; omega)
      by_cases hl : 4294967296 ≤ r + a
      · exact Or.inr (Or.inr (Or.inr (Or.inl ⟨q - 1, hqB, hqb, hzB, decide_eq_true (by omega), h1, hfew, by omega, d'.done hb hu (Or.inr ⟨hl, by omega⟩)⟩)))
      · exact Or.inr (Or.inl ⟨hqB, hqb, hzB, decide_eq_false (by omega), h1, hfew, by omega, d'⟩)
    · exact Or.inr (Or.inr (Or.inr (Or.inr ⟨hqB, hqb, decide_eq_false (by rw [← Int.natCast_mul q b]; omega), hfew, d.done hb hu (Or.inl ⟨by omega, by omega⟩)⟩)))

/-- The first guess of a digit, as the walk reckons it. -/
theorem first_guess (U a b c : Nat) (ha : 2147483648 ≤ a) (ha2 : a < 4294967296) (hb : b < 4294967296) (hc : c < 4294967296) (hU : U < a * 4294967296 + b) :
    ∃ p t r : Nat, IntKind.u64.wrap ((U : Int) / (a : Int)) = (p : Int) ∧ IntKind.u64.wrap ((p : Int) * (a : Int)) = (t : Int) ∧ IntKind.u64.wrap ((U : Int) - (t : Int)) = (r : Int) ∧
      Dig U a b c p r ∧ r < 4294967296 := by
  have d := dig_first U a b c ha hb hc hU
  have h1 : U / a ≤ U := Nat.div_le_self _ _
  have h2 := Nat.div_mul_le_self U a
  have h3 := Nat.div_add_mod U a
  have h4 := Nat.mod_lt U (show 0 < a by omega)
  rw [Nat.mul_comm] at h3
  refine ⟨U / a, U / a * a, U - U / a * a, ?_, ?_, ?_, d, by omega⟩
  · rw [← Int.natCast_ediv]; exact wrapN _ (by omega)
  · rw [← Int.natCast_mul]; exact wrapN _ (by omega)
  · rw [← Int.natCast_sub h2]; exact wrapN _ (by omega)

/-- The quotient and the rest of 128 bits by 64. -/
def dq (hi lo y : Nat) : Nat := (hi * 18446744073709551616 + lo) / y
def dr (hi lo y : Nat) : Nat := (hi * 18446744073709551616 + lo) % y
theorem cast_sum (a b n : Nat) (h : a * 4294967296 + b = n) : (a : Int) * 4294967296 + (b : Int) = (n : Int) := by omega
theorem cast_low (e s m : Nat) (h : e / 2 ^ s = m) : (e : Int) / 2 ^ s = (m : Int) := by subst h; push_cast; rfl
theorem div_end {hi lo y s Y U L c d Q R P E : Nat} (hs : s ≤ 63) (h0 : hi < y) (hlo : lo < 18446744073709551616)
    (e1 : Y = y * 2 ^ s) (e2 : U = hi * 2 ^ s + lo / 2 ^ (64 - s)) (e3 : L = lo * 2 ^ s % 18446744073709551616) (e4 : c = L / 4294967296) (e5 : d = L % 4294967296)
    (e6 : Q = (U * 4294967296 + c) / Y) (e7 : R = (U * 4294967296 + c) % Y) (e8 : P = (R * 4294967296 + d) / Y) (e9 : E = (R * 4294967296 + d) % Y) :
    (Q : Int) * 4294967296 + (P : Int) = (dq hi lo y : Int) ∧ (E : Int) / 2 ^ s = (dr hi lo y : Int) := by
  have h := (div_whole hi lo y s hs hlo h0).2
  subst e1 e2 e3 e4 e5 e6 e7 e8 e9
  exact ⟨cast_sum _ _ _ h.1, cast_low _ _ _ h.2⟩
end Go.Proofs.Ytkiepmfknbbeaaa
