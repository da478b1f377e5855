/-
  A shape's key, as bytes: two shapes have one just if they are the same. No program is named here.
-/
import Derived.Test.YtppiocopokbdlaaDoorSec
import Derived.Lib.ItoaMem
import Derived.Lib.ItoaLen
namespace Go.Proofs.YtppiocopokbdlaaDoor
open Go.RowKit

theorem dig_val {d : Nat} (h : d < 10) : (UInt8.ofNat (48 + d)).toNat = 48 + d := by
  rw [UInt8.toNat_ofNat']; omega
/-- The number that digits make. -/
def valOf (l : List UInt8) : Nat := l.foldl (fun t b => t * 10 + (b.toNat - 48)) 0
theorem valOf_dec : ∀ (n u : Nat), u ≤ n → valOf (Lib.decDigits u) = u
  | n, u, h => by
    rw [Lib.decDigits]
    by_cases c : u < 10
    · rw [dif_pos c]
      simp only [valOf, List.foldl_cons, List.foldl_nil, dig_val c]
      omega
    · rw [dif_neg c]
      match n with
      | 0 => omega
      | n + 1 =>
        have ih := valOf_dec n (u / 10) (by omega)
        unfold valOf at *
        rw [List.foldl_append, ih]
        simp only [List.foldl_cons, List.foldl_nil, dig_val (show u % 10 < 10 by omega)]
        omega
theorem dec_inj {u v : Nat} (h : Lib.decDigits u = Lib.decDigits v) : u = v := by
  rw [← valOf_dec u u (Nat.le_refl _), h, valOf_dec v v (Nat.le_refl _)]
theorem dec_digits : ∀ (n u : Nat), u ≤ n → ∀ b ∈ Lib.decDigits u, 48 ≤ b.toNat ∧ b.toNat ≤ 57
  | n, u, h => by
    rw [Lib.decDigits]
    by_cases c : u < 10
    · rw [dif_pos c]
      intro b hb
      rw [List.mem_singleton] at hb
      rw [hb, dig_val c]
      omega
    · rw [dif_neg c]
      match n with
      | 0 => omega
      | n + 1 =>
        have ih := dec_digits n (u / 10) (by omega)
        intro b hb
        rw [List.mem_append, List.mem_singleton] at hb
        rcases hb with hb | hb
        · exact ih b hb
        · rw [hb, dig_val (show u % 10 < 10 by omega)]
          omega
theorem itoa_bytes (n : Int) : ∀ b ∈ Lib.itoa n, b ≠ (32 : UInt8) := by
  intro b hb e
  subst e
  unfold Lib.itoa at hb
  split at hb
  · rw [List.mem_cons] at hb
    rcases hb with hb | hb
    · exact absurd hb (by decide)
    · exact absurd (dec_digits _ _ (Nat.le_refl _) _ hb).1 (by decide)
  · exact absurd (dec_digits _ _ (Nat.le_refl _) _ hb).1 (by decide)
theorem itoa_inj {m n : Int} (h : Lib.itoa m = Lib.itoa n) : m = n := by
  have head : ∀ (u : Nat) (r : List UInt8), Lib.decDigits u ≠ 45 :: r := fun u r e => by
    have := dec_digits u u (Nat.le_refl _) 45 (by rw [e]; exact List.mem_cons_self)
    exact absurd this.1 (by decide)
  unfold Lib.itoa at h
  split at h
  · split at h
    · have := dec_inj (List.cons.inj h).2
      omega
    · exact absurd h.symm (head _ _)
  · split at h
    · exact absurd h (head _ _)
    · have := dec_inj h
      omega

/-- A number, and a blank. -/
def numText (n : Int) : List UInt8 := Lib.itoa n ++ [32]
def boolText (b : Bool) : List UInt8 := if b then [116, 114, 117, 101] else [102, 97, 108, 115, 101]
def secText (s : Sec) : List UInt8 := boolText s.r ++ (numText s.h ++ (numText s.a0 ++ (numText s.b0 ++ (numText s.a1 ++ numText s.b1))))
def keyText : List Sec → List UInt8
  | [] => []
  | s :: l => secText s ++ keyText l

theorem split_blank : ∀ (x y r s : List UInt8), (∀ b ∈ x, b ≠ 32) → (∀ b ∈ y, b ≠ 32) → x ++ 32 :: r = y ++ 32 :: s → x = y ∧ r = s
  | [], [], r, s, _, _, h => by simpa using h
  | [], y :: ys, r, s, _, hy, h => by
    have := (List.cons.inj h).1
    exact absurd this.symm (hy y List.mem_cons_self)
  | x :: xs, [], r, s, hx, _, h => by
    have := (List.cons.inj h).1
    exact absurd this (hx x List.mem_cons_self)
  | x :: xs, y :: ys, r, s, hx, hy, h => by
    obtain ⟨h1, h2⟩ := List.cons.inj h
    obtain ⟨h3, h4⟩ := split_blank xs ys r s (fun b hb => hx b (List.mem_cons_of_mem _ hb)) (fun b hb => hy b (List.mem_cons_of_mem _ hb)) h2
    exact ⟨by rw [h1, h3], h4⟩
theorem num_split {m n : Int} {r s : List UInt8} (h : numText m ++ r = numText n ++ s) : m = n ∧ r = s := by
  unfold numText at h
  rw [List.append_assoc, List.append_assoc] at h
  obtain ⟨h1, h2⟩ := split_blank _ _ r s (itoa_bytes m) (itoa_bytes n) h
  exact ⟨itoa_inj h1, h2⟩
theorem bool_split {a b : Bool} {r s : List UInt8} (h : boolText a ++ r = boolText b ++ s) : a = b ∧ r = s := by
  cases a <;> cases b <;> simp [boolText] at h ⊢ <;> exact h
theorem sec_split {x y : Sec} {r s : List UInt8} (h : secText x ++ r = secText y ++ s) : x = y ∧ r = s := by
  unfold secText at h
  simp only [List.append_assoc] at h
  obtain ⟨e0, h⟩ := bool_split h
  obtain ⟨e1, h⟩ := num_split h
  obtain ⟨e2, h⟩ := num_split h
  obtain ⟨e3, h⟩ := num_split h
  obtain ⟨e4, h⟩ := num_split h
  obtain ⟨e5, h6⟩ := num_split h
  clear h
  obtain ⟨x0, x1, x2, x3, x4, x5⟩ := x
  obtain ⟨y0, y1, y2, y3, y4, y5⟩ := y
  simp only at e0 e1 e2 e3 e4 e5
  subst e0 e1 e2 e3 e4 e5
  exact ⟨rfl, h6⟩
theorem sec_full (x : Sec) : secText x ≠ [] := by
  unfold secText boolText
  cases x.r <;> simp
theorem key_inj : ∀ (l m : List Sec), keyText l = keyText m → l = m
  | [], [], _ => rfl
  | [], y :: m, h => by
    have : secText y ++ keyText m = [] := h.symm
    exact absurd (List.append_eq_nil_iff.1 this).1 (sec_full y)
  | x :: l, [], h => by
    have : secText x ++ keyText l = [] := h
    exact absurd (List.append_eq_nil_iff.1 this).1 (sec_full x)
  | x :: l, y :: m, h => by
    obtain ⟨h1, h2⟩ := sec_split (show secText x ++ keyText l = secText y ++ keyText m from h)
    rw [h1, key_inj l m h2]

/-- A key, as a string. -/
def keyS (l : List Sec) : ByteArray := ⟨(keyText l).toArray⟩
theorem keyS_same (l m : List Sec) : ((keyS l).toList == (keyS m).toList) = decide (l = m) := by
  by_cases c : l = m
  · subst c; simp
  · rw [decide_eq_false c, beq_eq_false_iff_ne]
    intro h
    apply c
    apply key_inj
    simpa [keyS] using h

theorem num_len {n : Int} (h : I64 n) : (numText n).length ≤ 22 := by
  unfold I64 at h
  unfold numText
  have := Lib.itoa_length_le n h.1 h.2
  simp; omega
theorem bool_len (b : Bool) : (boolText b).length ≤ 5 := by cases b <;> decide
theorem sec_len {s : Sec} (h : s.I) : (secText s).length ≤ 115 := by
  obtain ⟨h1, h2, h3, h4, h5⟩ := h
  have := num_len h1
  have := num_len h2
  have := num_len h3
  have := num_len h4
  have := num_len h5
  have := bool_len s.r
  unfold secText
  simp only [List.length_append]
  omega
theorem key_len : ∀ (l : List Sec), (∀ s ∈ l, s.I) → (keyText l).length ≤ 115 * l.length
  | [], _ => by simp [keyText]
  | s :: l, h => by
    have h1 := sec_len (h s List.mem_cons_self)
    have h2 := key_len l (fun x hx => h x (List.mem_cons_of_mem _ hx))
    show (secText s ++ keyText l).length ≤ _
    rw [List.length_append, List.length_cons]
    omega
theorem key_append : ∀ (l m : List Sec), keyText (l ++ m) = keyText l ++ keyText m
  | [], _ => rfl
  | s :: l, m => by
    show secText s ++ keyText (l ++ m) = (secText s ++ keyText l) ++ keyText m
    rw [key_append l m, List.append_assoc]
theorem key_take (l : List Sec) (k : Nat) (s : Sec) (h : l[k]? = some s) : keyText (l.take (k + 1)) = keyText (l.take k) ++ secText s := by
  rw [List.take_add_one, h, key_append]
  simp [keyText]
/-- The numbers of a section, in the key's order. -/
def fieldNo (s : Sec) (k : Nat) : Int := [s.h, s.a0, s.b0, s.a1, s.b1].getD k 0
def numsTo (s : Sec) (j : Nat) : List UInt8 := ([s.h, s.a0, s.b0, s.a1, s.b1].take j).flatMap numText
theorem nums_succ (s : Sec) (j : Nat) (hj : j < 5) : numsTo s (j + 1) = numsTo s j ++ numText (fieldNo s j) := by
  match j, hj with
  | 0, _ => simp [numsTo, fieldNo]
  | 1, _ => simp [numsTo, fieldNo]
  | 2, _ => simp [numsTo, fieldNo]
  | 3, _ => simp [numsTo, fieldNo]
  | 4, _ => simp [numsTo, fieldNo]
theorem nums_all (s : Sec) : boolText s.r ++ numsTo s 5 = secText s := by
  simp [numsTo, secText]
theorem field_I {s : Sec} (h : s.I) (j : Nat) (hj : j < 5) : I64 (fieldNo s j) := by
  obtain ⟨h1, h2, h3, h4, h5⟩ := h
  match j, hj with
  | 0, _ => exact h1
  | 1, _ => exact h2
  | 2, _ => exact h3
  | 3, _ => exact h4
  | 4, _ => exact h5
theorem nums_len {s : Sec} (h : s.I) (j : Nat) (hj : j ≤ 5) : (numsTo s j).length ≤ 22 * j := by
  induction j with
  | zero => simp [numsTo]
  | succ j ih =>
    have h1 := ih (by omega)
    have h2 := num_len (field_I h j (by omega))
    rw [nums_succ s j (by omega), List.length_append]
    omega
end Go.Proofs.YtppiocopokbdlaaDoor
