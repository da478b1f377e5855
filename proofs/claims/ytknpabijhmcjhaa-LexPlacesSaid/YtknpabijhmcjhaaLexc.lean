/-
  Contracts of the code's scanning: a line's end, a word.
-/
import Derived.Test.YtknpabijhmcjhaaLexk
import Derived.Test.YtknpabijhmcjhaaLexw
import Derived.Lib.BytesEntry
import Derived.Lib.IndexLaws
namespace Go.Proofs.Ytknpabijhmcjhaa
open Go.RowKit

theorem bytesOf_nums (bs : List UInt8) : Lib.bytesOf (nums bs) = bs := bytes_nums bs
theorem idx_any (b o cap : Nat) (bs : List UInt8) (w : World) (h : BAt w b o bs) : Calls Try.prog 26 #[.slice (some ⟨b, o, none⟩) bs.length cap, .int .u8 10] w fun e w' => e = .returned (.int .i64 (Lib.indexByte bs 10)) ∧ w = w' := by
  have hr := Lib.run_indexByteSlice (P := Try.prog) w b o bs.length cap (nums bs) (nums_len bs) (h.nums rfl) 10
  rw [bytesOf_nums] at hr
  go_enter Try.func26, Try.ntmps26
  go_wp2
  rw [run_callFunc_extern (fn := Try.f27) Try.func27 (by kernel_rfl) (by kernel_rfl) (by kernel_rfl) (e := Extern.BytealgIndexByte.indexByte) (by kernel_rfl), hr]
  simp only [Result.andThen]
  rw [Oper.upon_value]
  go_wp2
  go_ret
  exact ⟨rfl, rfl⟩
/-- The line's end, from place p on, where a byte stands. -/
theorem lineEnd_any (b o cap p : Nat) (bs : List UInt8) (w : World) (h : BAt w b o bs) (hp : p < bs.length) (hle : bs.length ≤ cap) (hcap : cap ≤ maxLen) :
    Calls Try.prog 24 #[.slice (some ⟨b, o, none⟩) bs.length cap, .int .i64 (p : Int)] w fun e w' => (∃ q : Nat, e = .returned (.int .i64 (q : Int)) ∧ p ≤ q ∧ q ≤ bs.length ∧ (∀ i, p ≤ i → i < q → ∀ c, bs[i]? = some c → c.toNat ≠ 10) ∧
      (bs.length ≤ q ∨ ∃ c, bs[q]? = some c ∧ c.toNat = 10)) ∧ w = w' := by
  unfold maxLen at hcap
  have c0 := fun w h => idx_any b (o + p) (cap - p) (bs.drop p) w h
  rw [List.length_drop] at c0
  have hd := h.drop p
  have hpI : (p : Int) ≤ (bs.length : Int) := by omega
  have hp0 : (0 : Int) ≤ (p : Int) := by omega
  have hpc : (p : Int) ≤ (cap : Int) := by omega
  go_enter Try.func24, Try.ntmps24
  go_wp2_with fail
  refine (c0 _ hd).mono ?_
  rintro e w1 ⟨rfl, rfl⟩
  clear c0 hd
  have hge := Lib.indexByte_ge (bs.drop p) 10
  by_cases hx : Lib.indexByte (bs.drop p) 10 = -1
  · have hn := Lib.indexByte_none hx
    have HR := Lib.hid (show p ≤ bs.length ∧ bs.length ≤ bs.length ∧ (∀ i, p ≤ i → i < bs.length → ∀ c, bs[i]? = some c → c.toNat ≠ 10) ∧ (bs.length ≤ bs.length ∨ ∃ c, bs[bs.length]? = some c ∧ c.toNat = 10) from ⟨by omega, Nat.le_refl _, fun i h1 h2 c hc e => by
        refine hn (i - p) ?_
        rw [List.getElem?_drop, show p + (i - p) = i by omega, hc]
        exact congrArg some (UInt8.toNat.inj e), .inl (Nat.le_refl _)⟩)
    rw [hx]
    clear hx hn hge h
    go_wp2
    go_ret
    exact ⟨⟨_, rfl, HR.out⟩, rfl⟩
  · obtain ⟨k, hk⟩ : ∃ k : Nat, Lib.indexByte (bs.drop p) 10 = (k : Int) := ⟨(Lib.indexByte (bs.drop p) 10).toNat, by omega⟩
    obtain ⟨s1, s2⟩ := Lib.indexByte_some hk
    rw [List.getElem?_drop] at s1
    obtain ⟨q, hq⟩ : ∃ q, q = p + k := ⟨_, rfl⟩
    rw [← hq] at s1
    have hlt : q < bs.length := (List.getElem?_eq_some_iff.1 s1).1
    have wk : IntKind.i64.wrap ((p : Int) + (k : Int)) = (q : Int) := by rw [IntKind.wrap_i64]; omega
    have kB : decide ((0 : Int) ≤ (k : Int)) = true := decide_eq_true (by omega)
    have HR := Lib.hid (show p ≤ q ∧ q ≤ bs.length ∧ (∀ i, p ≤ i → i < q → ∀ c, bs[i]? = some c → c.toNat ≠ 10) ∧ (bs.length ≤ q ∨ ∃ c, bs[q]? = some c ∧ c.toNat = 10) from ⟨by omega, by omega, fun i h1 h2 c hc e => by
        refine s2 (i - p) (by omega) ?_
        rw [List.getElem?_drop, show p + (i - p) = i by omega, hc]
        exact congrArg some (UInt8.toNat.inj e), .inr ⟨_, s1, rfl⟩⟩)
    rw [hk]
    clear hx hk s1 s2 hge h hq
    go_wp2
    go_ret
    exact ⟨⟨_, rfl, HR.out⟩, rfl⟩
set_option maxHeartbeats 2000000 in
/-- A word, from place p on, where a byte of one stands. -/
theorem word_any (b o cap p : Nat) (bs : List UInt8) (w : World) (h : BAt w b o bs) (hp : p < bs.length) (hle : bs.length ≤ cap) (hcap : cap ≤ maxLen) :
    Calls Try.prog 23 #[.slice (some ⟨b, o, none⟩) bs.length cap, .int .i64 (p : Int)] w fun e w' => (∃ k : Nat, e = .returned (.agg #[.int .i64 (p : Int), .string (strB (cut bs p k))]) ∧ p ≤ k ∧ k ≤ bs.length ∧
      (∀ j, p ≤ j → j < k → ∀ c, bs[j]? = some c → partN c.toNat = true) ∧ (bs.length ≤ k ∨ ∃ c, bs[k]? = some c ∧ partN c.toNat = false)) ∧ Q w w' := by
  unfold maxLen at hcap
  have hcp : p < cap := by omega
  have hcp' : ¬ cap = p := by omega
  have hconvs : ∀ k, p ≤ k → k ≤ bs.length → (convert 22 9 (.slice (some ⟨b, o + p, none⟩) (k - p) (cap - p))).run Try.prog (w.alloc (.cells #[.int .i64 0, .string .empty] 44)) = .ok (.string (strB (cut bs p k))) (w.alloc (.cells #[.int .i64 0, .string .empty] 44)) := fun k h1 h2 => by
    have := run_convert_bytes_arg (P := Try.prog) (w.alloc (.cells #[.int .i64 0, .string .empty] 44)) 22 5 Try.underlying22 Try.underlying5 b (o + p) (k - p) (cap - p) (nums (cut bs p k)) (by rw [nums_len, cut_len h1 h2])
      (((h.keep ((Q.refl w).alloc _ _).b).drop p).take (k - p) |>.nums (cut_len h1 h2)) 9 Try.underlying9
    rw [strB_nums] at this
    exact this
  have hcell : ∀ k c, bs[k]? = some c → (w.alloc (.cells #[.int .i64 0, .string .empty] 44)).cell? ⟨b, o + k, none⟩ = some (.int .u8 ((c.toNat : Nat) : Int)) := (h.keep ((Q.refl w).alloc _ _).b)
  clear h
  go_enter Try.func23, Try.ntmps23
  go_wp2
  go_loopw [5] (fun i wr => ∃ k : Nat, p ≤ k ∧ k ≤ bs.length ∧ i = .int .i64 k ∧ (∀ j, p ≤ j → j < k → ∀ c, bs[j]? = some c → partN c.toNat = true) ∧ w.alloc (.cells #[.int .i64 0, .string .empty] 44) = wr) (fun i _ => bs.length + 1 - (intOf i).toNat)
  case atStart => exact ⟨p, Nat.le_refl _, by omega, rfl, fun j h1 h2 => by omega, rfl⟩
  case round =>
    obtain ⟨k, hpk, hk, rfl, hall, rfl⟩ := hrel
    by_cases hl : k < bs.length
    · obtain ⟨c, hg⟩ : ∃ c, bs[k]? = some c := ⟨_, List.getElem?_eq_getElem hl⟩
      have hc := hcell k c hg
      have hlB : decide ((k : Int) < (bs.length : Int)) = true := decide_eq_true (by omega)
      have hlI : (k : Int) < (bs.length : Int) := by omega
      have hk0 : (0 : Int) ≤ (k : Int) := by omega
      have c1 := fun w => ofWord_any c.toNat w
      cases hp2 : partN c.toNat
      · rw [hp2] at c1
        have HR := Lib.hid (show p ≤ k ∧ k ≤ bs.length ∧ (∀ j, p ≤ j → j < k → ∀ c, bs[j]? = some c → partN c.toNat = true) ∧ (bs.length ≤ k ∨ ∃ c, bs[k]? = some c ∧ partN c.toNat = false) from ⟨hpk, hk, hall, .inr ⟨c, hg, hp2⟩⟩)
        have hconv := hconvs k hpk hk
        have kp : (p : Int) ≤ (k : Int) := by omega
        have kc : (k : Int) ≤ (cap : Int) := by omega
        have p0 : (0 : Int) ≤ (p : Int) := by omega
        have HQ := Lib.hid ((Q.refl w).alloc #[.int .i64 (p : Int), .string (strB (cut bs p k))] 44)
        obtain ⟨S, hS⟩ : ∃ S, strB (cut bs p k) = S := ⟨_, rfl⟩
        rw [hS] at hconv HQ
        replace hS := Lib.hid hS
        clear hall hconvs hg hp2 hl hcell hp hpk hk hle
        generalize c.toNat = m at *
        go_wp2_with fail
        refine (c1 _).mono ?_
        rintro e w1 ⟨rfl, rfl⟩
        clear c1 hc
        go_wp2
        exact bodyPost_ret (v := .agg #[.int .i64 (p : Int), .string S]) (by simp [results, Try.results23, go_sem, *]) rfl ⟨⟨k, by rw [hS.out], HR.out⟩, HQ.out⟩
      · rw [hp2] at c1
        have wk1 : IntKind.i64.wrap ((k : Int) + 1) = (k : Int) + 1 := by rw [IntKind.wrap_i64]; omega
        have HA := Lib.hid (show p ≤ k + 1 ∧ k + 1 ≤ bs.length ∧ ∀ j, p ≤ j → j < k + 1 → ∀ c, bs[j]? = some c → partN c.toNat = true from ⟨by omega, by omega, fun j h1 h2 x hx => by
          by_cases hj : j = k
          · subst hj; rw [hg] at hx; cases hx; exact hp2
          · exact hall j h1 (by omega) x hx⟩)
        have HM := Lib.hid hl
        clear hall hp2 hg hl hcell hconvs hp hpk hk hle
        generalize c.toNat = m at *
        go_wp2_with fail
        refine (c1 _).mono ?_
        rintro e w1 ⟨rfl, rfl⟩
        clear c1 hc
        go_wp2
        go_roundw
        case rel => exact ⟨k + 1, HA.out.1, HA.out.2.1, by go_num, HA.out.2.2, trivial⟩
        case measure => have := HM.out; simp [intOf]; omega
    · have hlB : decide ((k : Int) < (bs.length : Int)) = false := decide_eq_false (by omega)
      have HR := Lib.hid (show p ≤ k ∧ k ≤ bs.length ∧ (∀ j, p ≤ j → j < k → ∀ c, bs[j]? = some c → partN c.toNat = true) ∧ (bs.length ≤ k ∨ ∃ c, bs[k]? = some c ∧ partN c.toNat = false) from ⟨hpk, hk, hall, .inl (by omega)⟩)
      have hconv := hconvs k hpk hk
      have kp : (p : Int) ≤ (k : Int) := by omega
      have kc : (k : Int) ≤ (cap : Int) := by omega
      have p0 : (0 : Int) ≤ (p : Int) := by omega
      have HQ := Lib.hid ((Q.refl w).alloc #[.int .i64 (p : Int), .string (strB (cut bs p k))] 44)
      obtain ⟨S, hS⟩ : ∃ S, strB (cut bs p k) = S := ⟨_, rfl⟩
      rw [hS] at hconv HQ
      replace hS := Lib.hid hS
      clear hall hconvs hcell hp hpk hk hle
      go_wp2
      exact bodyPost_ret (v := .agg #[.int .i64 (p : Int), .string S]) (by simp [results, Try.results23, go_sem, *]) rfl ⟨⟨k, by rw [hS.out], HR.out⟩, HQ.out⟩
end Go.Proofs.Ytknpabijhmcjhaa
