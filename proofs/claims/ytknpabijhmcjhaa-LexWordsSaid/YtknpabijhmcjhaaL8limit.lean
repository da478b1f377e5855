/-
  Just how long a source may be.
-/
import Derived.Test.YtknpabijhmcjhaaL8a
import Derived.Deep.OwnRows
namespace Go.Proofs.Ytknpabijhmcjhaa
open Go.RowKit

theorem scan_blanks : ∀ (n p : Nat) (out : List (List Wd)) (line : List Wd), scan (List.replicate n 32) p out line [] false = (flushL out line, 0, 0)
  | 0, p, out, line => rfl
  | n + 1, p, out, line => by
    show scan (32 :: List.replicate n 32) p out line [] false = _
    rw [scan, if_neg (by decide), if_neg (by decide), if_neg (by decide), if_neg (by decide), if_pos (by decide), flushW_none]
    exact scan_blanks n (p + 1) out line
theorem linesB_blanks (n : Nat) : linesB (List.replicate n 32) = if 65536 < n then ([], 65536, 27) else ([], 0, 0) := by
  unfold linesB
  rw [List.length_replicate, scan_blanks]
  rfl
theorem u8w {k : Int} (w : (Lit.int .u8 k).wf = true) : 0 ≤ k ∧ k ≤ 255 := by
  simp [Lit.wf, IntKind.min, IntKind.max, IntKind.signed, IntKind.bits] at w
  omega
theorem byteInfo : (Try.prog.info? 5).map (fun i => (i.zero, i.size, i.bytes)) = some (some (.int .u8 0), 1, 1) := by kernel_rfl
set_option maxHeartbeats 2000000 in
theorem limit_law (k : Int) (hk : (Lit.int .u8 k).wf = true) (w : World) : Calls Try.prog 5 #[.int .u8 k] w fun e w' => e = .returned (.bool true) ∧ B w w' := by
  obtain ⟨hk0, hk1⟩ := u8w hk
  obtain ⟨d, hd⟩ : ∃ d : Nat, k.tmod 5 = (d : Int) := ⟨(k % 5).toNat, by rw [Int.tmod_eq_emod_of_nonneg hk0]; omega⟩
  have hd5 : d < 5 := by rw [Int.tmod_eq_emod_of_nonneg hk0] at hd; omega
  obtain ⟨n, hn⟩ : ∃ n, n = 65534 + d := ⟨_, rfl⟩
  have w1 : IntKind.i64.wrap (d : Int) = (d : Int) := by rw [IntKind.wrap_i64]; omega
  have w2 : IntKind.i64.wrap (65534 + (d : Int)) = (n : Int) := by rw [IntKind.wrap_i64]; omega
  have w3 : IntKind.u8.wrap (d : Int) = (d : Int) := by simp [IntKind.wrap, IntKind.signed, IntKind.bits]; omega
  have hn2 : n ≤ 65538 := by omega
  have hn1 : 0 < n := by omega
  have hmk := run_make_row' (P := Try.prog) 22 5 (.int .u8 0) 1 Try.underlying22 byteInfo rfl .i64 .i64 n (by omega) (by omega)
  have HN := Lib.hid (And.intro hn hd5)
  clear hk hk0 hk1 hn hd5
  go_enter Try.func5, Try.ntmps5
  go_wp2_with fail
  refine (known8_any _).mono ?_
  rintro e v1 ⟨rfl, q1⟩
  have own0 := World.ownsRow_lit (base := w.heap.size) (e := 5) (size := 1) v1 (madeCells #[.int .u8 0] n) n q1.below.size (by unfold maxLen; omega) (by rw [size_madeCells]; omega)
  have B0 := q1.alloc (madeCells #[.int .u8 0] n) 5
  replace own0 := Lib.hid own0
  replace B0 := Lib.hid B0
  clear q1
  go_wp2
  clear hmk w1 w2 w3 hd
  generalize v1.alloc (.cells (madeCells #[.int .u8 0] n) 5) = V at *
  generalize v1.heap.size = H at *
  go_loopw [5] (fun iv wr => ∃ (i : Nat) (xs : List Value), i ≤ n ∧ iv = .int .i64 i ∧ wr.ownsRow w.heap.size 5 1 (.slice (some ⟨H, 0, none⟩) n n) n xs ∧ (∀ j, j < i → xs[j]? = some (.int .u8 32)) ∧ B w wr) (fun iv _ => n + 1 - (intOf iv).toNat)
  case atStart => exact ⟨0, _, by omega, rfl, own0.out, fun j hj => by omega, B0.out⟩
  case round =>
    obtain ⟨i, xs, hi, rfl, hown, hall, hB⟩ := hrel
    clear own0 B0
    by_cases hl : i < n
    · have hlB : decide ((i : Int) < (n : Int)) = true := decide_eq_true (by omega)
      have hlI : (i : Int) < (n : Int) := by omega
      have hi0 : (0 : Int) ≤ (i : Int) := by omega
      have wk1 : IntKind.i64.wrap ((i : Int) + 1) = (i : Int) + 1 := by rw [IntKind.wrap_i64]; omega
      have hlen : xs.length = n := by have := hown.1; omega
      obtain ⟨x, hx⟩ : ∃ x, xs[i]? = some x := ⟨_, List.getElem?_eq_getElem (by omega)⟩
      have hc := (hown.cellAt i (by omega)).trans hx
      have hf := hown.frozenAt i
      have hst := Lib.hid (hown.stored i (.int .u8 32)).1
      have HB := Lib.hid (hB.setCell (p := ⟨H, i, none⟩) (hown.lt H rfl).1 (.int .u8 32))
      have HA := Lib.hid (show ∀ j, j < i + 1 → (xs.set i (Value.int .u8 32))[j]? = some (.int .u8 32) from fun j hj => by
        by_cases c : j = i
        · subst c; rw [List.getElem?_set_self (by omega)]
        · rw [List.getElem?_set_ne (by omega)]; exact hall j (by omega))
      have HL := Lib.hid hl
      clear hown hall hB hx hlen
      go_wp2
      go_roundw
      case rel => exact ⟨i + 1, _, by have := HL.out; omega, by go_num, hst.out, HA.out, HB.out⟩
      case measure => have := HL.out; simp [intOf]; omega
    · have hlB : decide ((i : Int) < (n : Int)) = false := decide_eq_false (by omega)
      obtain rfl : i = n := by omega
      have hbs : IsB wr (some ⟨H, 0, none⟩) i H 0 (List.replicate i 32) := ⟨fun j c hc => by
        have hj : j < i := by have := (List.getElem?_eq_some_iff.1 hc).1; simpa using this
        rw [List.getElem?_replicate, if_pos hj] at hc
        cases hc
        rw [Nat.zero_add]
        exact (hown.cellAt j (by omega)).trans (hall j hj), fun _ => rfl, by rw [List.length_replicate]; exact Nat.le_refl _, by unfold maxLen; omega⟩
      have cl := lines_any _ _ _ _ _ _ hbs
      rw [List.length_replicate] at cl
      have HB := Lib.hid hB
      clear hown hall hB hbs
      go_wp2_with fail
      refine cl.mono ?_
      clear cl
      unfold LinesRes
      rw [linesB_blanks]
      by_cases hbig : 65536 < i
      · have bB : decide ((65536 : Int) < (i : Int)) = true := decide_eq_true (by omega)
        rw [if_pos hbig]
        rintro e v3 ⟨v, rfl, hv, q3⟩
        obtain ⟨av, cv, rfl⟩ := hv.form
        replace q3 := Lib.hid q3
        clear hv
        go_wp2
        go_ret
        exact ⟨rfl, HB.out.trans q3.out⟩
      · have bB : decide ((65536 : Int) < (i : Int)) = false := decide_eq_false (by omega)
        rw [if_neg hbig]
        rintro e v3 ⟨v, rfl, hv, q3⟩
        obtain ⟨av, cv, rfl⟩ := hv.form
        replace q3 := Lib.hid q3
        clear hv
        go_wp2
        go_ret
        exact ⟨rfl, HB.out.trans q3.out⟩
end Go.Proofs.Ytknpabijhmcjhaa
