/-
  Each number is read from its digits.
-/
import Derived.Test.YtknpabijhmcjhaaL8a
namespace Go.Proofs.Ytknpabijhmcjhaa
open Go.RowKit

def digF (t : Nat) (b : UInt8) : Nat := t * 10 + (b.toNat - 48)
theorem valTo_list (l : List UInt8) : ∀ k, k ≤ l.length → valTo (strB l) k = (l.take k).foldl digF 0
  | 0, _ => by rw [List.take_zero]; rfl
  | k + 1, h => by
    have hg : l[k]? = some l[k] := List.getElem?_eq_getElem (by omega)
    have e : byteAt (strB l) k = (l[k]).toNat := by
      unfold byteAt strB
      rw [List.getD_eq_getElem?_getD]
      show (l[k]?.getD 0).toNat = _
      rw [hg]
      rfl
    rw [List.take_add_one, List.foldl_append, ← valTo_list l k (by omega), hg]
    show valTo (strB l) k * 10 + (byteAt (strB l) k - 48) = _
    rw [e]
    rfl
theorem digit_val {d : Nat} (h : d < 10) : (UInt8.ofNat (48 + d)).toNat = 48 + d := by
  rw [UInt8.toNat_ofNat']; omega
theorem dec_val : ∀ (n u : Nat), u ≤ n → (Lib.decDigits u).foldl digF 0 = u
  | n, u, h => by
    rw [Lib.decDigits]
    by_cases c : u < 10
    · rw [dif_pos c]
      simp only [digF, List.foldl_cons, List.foldl_nil, digit_val c]
      omega
    · rw [dif_neg c]
      match n with
      | 0 => omega
      | n + 1 =>
        have ih := dec_val n (u / 10) (by omega)
        rw [List.foldl_append, ih]
        simp only [digF, List.foldl_cons, List.foldl_nil, digit_val (show u % 10 < 10 by omega)]
        omega
theorem dec_digs : ∀ (n u : Nat), u ≤ n → ∀ b ∈ Lib.decDigits u, 48 ≤ b.toNat ∧ b.toNat ≤ 57
  | n, u, h => by
    rw [Lib.decDigits]
    by_cases c : u < 10
    · rw [dif_pos c]
      intro b hb
      rw [List.mem_singleton] at hb
      rw [hb, digit_val c]
      omega
    · rw [dif_neg c]
      match n with
      | 0 => omega
      | n + 1 =>
        have ih := dec_digs n (u / 10) (by omega)
        intro b hb
        rw [List.mem_append, List.mem_singleton] at hb
        rcases hb with hb | hb
        · exact ih b hb
        · rw [hb, digit_val (show u % 10 < 10 by omega)]
          omega
/-- No nought stands ahead. -/
theorem dec_head : ∀ (n u : Nat), u ≤ n → 0 < u → ∃ b l, Lib.decDigits u = b :: l ∧ b.toNat ≠ 48
  | n, u, h, h0 => by
    rw [Lib.decDigits]
    by_cases c : u < 10
    · rw [dif_pos c]
      exact ⟨_, _, rfl, by rw [digit_val c]; omega⟩
    · rw [dif_neg c]
      match n with
      | 0 => omega
      | n + 1 =>
        obtain ⟨b, l, e, hb⟩ := dec_head n (u / 10) (by omega) (by omega)
        rw [e]
        exact ⟨b, _, rfl, hb⟩
theorem decS_str (n : Nat) : decS n = strB (Lib.decDigits n) := rfl
theorem byteAt_str (l : List UInt8) (i : Nat) (b : UInt8) (h : l[i]? = some b) : byteAt (strB l) i = b.toNat := by
  unfold byteAt strB
  rw [List.getD_eq_getElem?_getD]
  show (l[i]?.getD 0).toNat = _
  rw [h]
  rfl
theorem dec_long (n : Nat) : 1 ≤ (Lib.decDigits n).length := by
  rw [Lib.decDigits]
  split <;> simp
theorem dec_num {n : Nat} (h : n ≤ 1000000000000) : numOk (decS n) = true ∧ numV (decS n) = n := by
  have hs : (decS n).size = (Lib.decDigits n).length := by rw [decS_str, strB_size]
  have hv : valTo (decS n) (decS n).size = n := by rw [hs, decS_str, valTo_list _ _ (Nat.le_refl _), List.take_length, dec_val n n (Nat.le_refl _)]
  have := num_yes (s := decS n) ⟨by rw [hs]; exact dec_long n, fun ⟨h2, h48⟩ => by
      rcases Nat.eq_zero_or_pos n with h0 | h0
      · rw [hs, h0, Lib.decDigits] at h2; simp at h2
      · obtain ⟨b, l, e, hb⟩ := dec_head n n (Nat.le_refl _) h0
        rw [decS_str, byteAt_str _ 0 b (by rw [e]; rfl)] at h48
        exact hb h48, fun i hi => by
      rw [hs] at hi
      rw [decS_str, byteAt_str _ i _ (List.getElem?_eq_getElem hi), digN_iff]
      exact dec_digs n n (Nat.le_refl _) _ (List.getElem_mem hi), by rw [hv]; exact h⟩
  rw [hv] at this
  exact this
/-- A nought ahead. -/
theorem zero_num (n : Nat) : numOk ((⟨#[48]⟩ : ByteArray) ++ decS n) = false ∧ numV ((⟨#[48]⟩ : ByteArray) ++ decS n) = 0 := by
  have e : (⟨#[48]⟩ : ByteArray) ++ decS n = strB (48 :: Lib.decDigits n) := by
    apply ByteArray.ext
    rw [ByteArray.data_append, decS_str]
    simp [strB]
  rw [e]
  refine num_first ?_ (byteAt_str _ 0 48 rfl)
  rw [strB_size]
  have := dec_long n
  simp
  intro h
  rw [h] at this
  simp at this
theorem far_num (n : Nat) (t : ByteArray) (ht : t.size = 13) : numOk (decS n ++ t) = false ∧ numV (decS n ++ t) = 0 := by
  refine num_long ?_
  rw [ByteArray.size_append, ht, decS_str, strB_size]
  have := dec_long n
  omega
theorem u64w {k : Int} (w : (Lit.int .u64 k).wf = true) : 0 ≤ k ∧ k ≤ 18446744073709551615 := by
  simp [Lit.wf, IntKind.min, IntKind.max, IntKind.signed, IntKind.bits] at w
  omega
/-- A number below a bound, out of any. -/
theorem pick64 (k : Int) (h : 0 ≤ k) (m : Nat) (hm : 0 < m) (hm2 : m ≤ 9223372036854775807) : ∃ v : Nat, k.tmod (m : Int) = (v : Int) ∧ v < m ∧ IntKind.u64.wrap (v : Int) = (v : Int) ∧ IntKind.i64.wrap (v : Int) = (v : Int) := by
  have e := Int.tmod_eq_emod_of_nonneg (b := (m : Int)) h
  have h1 := Int.emod_nonneg k (show (m : Int) ≠ 0 by omega)
  have h2 := Int.emod_lt_of_pos k (show (0 : Int) < (m : Int) by omega)
  refine ⟨(k % (m : Int)).toNat, by omega, by omega, ?_, ?_⟩
  · rw [IntKind.wrap_u64]; omega
  · rw [IntKind.wrap_i64]; omega
set_option maxHeartbeats 1000000 in
theorem nums_main (k : Int) (hk : (Lit.int .u64 k).wf = true) (w : World) : Calls Try.prog 7 #[.int .u64 k] w fun e w' => e = .returned (.bool true) ∧ B w w' := by
  obtain ⟨V, hV, hlt, w1, w2⟩ := pick64 k (u64w hk).1 1000000000001 (by omega) (by omega)
  have hV' : k.tmod 1000000000001 = (V : Int) := hV
  have cd := r8dec_any V V (Nat.le_refl _) (by omega)
  have ca := fun w => number_any (decS V) w
  have cz := fun w => number_any ((⟨#[48]⟩ : ByteArray) ++ decS V) w
  have cf := fun w => number_any (decS V ++ (⟨#[48, 48, 48, 48, 48, 48, 48, 48, 48, 48, 48, 48, 48]⟩ : ByteArray)) w
  unfold NumRes at ca cz cf
  obtain ⟨a1, a2⟩ := dec_num (n := V) (by omega)
  obtain ⟨z1, z2⟩ := zero_num V
  obtain ⟨f1, f2⟩ := far_num V (⟨#[48, 48, 48, 48, 48, 48, 48, 48, 48, 48, 48, 48, 48]⟩ : ByteArray) rfl
  rw [a1, a2] at ca
  rw [z1, z2] at cz
  rw [f1, f2] at cf
  have hsz := decS_size (n := V) (by omega)
  have s1 : ¬ 9223372036854775807 < (⟨#[48]⟩ : ByteArray).size + (decS V).size := by rw [show (⟨#[48]⟩ : ByteArray).size = 1 from rfl]; omega
  have s2 : ¬ 9223372036854775807 < (decS V).size + (⟨#[48, 48, 48, 48, 48, 48, 48, 48, 48, 48, 48, 48, 48]⟩ : ByteArray).size := by rw [show (⟨#[48, 48, 48, 48, 48, 48, 48, 48, 48, 48, 48, 48, 48]⟩ : ByteArray).size = 13 from rfl]; omega
  have e1 : ((V : Int) == (V : Int)) = true := by simp
  generalize decS V = S at *
  clear hk hV hlt a1 a2 z1 z2 f1 f2 hsz
  go_enter Try.func7, Try.ntmps7
  go_wp2_with fail
  refine (known8_any _).mono ?_
  rintro e v1 ⟨rfl, q1⟩
  go_wp2_with fail
  refine (cd _).mono ?_
  rintro e v2 ⟨rfl, rfl⟩
  go_wp2_with fail
  refine (ca _).mono ?_
  rintro e v3 ⟨rfl, q3⟩
  go_wp2_with fail
  refine (cz _).mono ?_
  rintro e v4 ⟨rfl, q4⟩
  go_wp2_with fail
  refine (cf _).mono ?_
  rintro e v5 ⟨rfl, q5⟩
  have HQ := Lib.hid (((q1.trans q3).trans q4).trans q5)
  clear q1 q3 q4 q5 cd ca cz cf
  go_wp2
  go_ret
  exact ⟨rfl, HQ.out⟩
end Go.Proofs.Ytknpabijhmcjhaa
