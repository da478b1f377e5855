/-
  Contract of the code's Number.
-/
import Derived.Test.YtknpabijhmcjhaaNumm
import Derived.Test.YtknpabijhmcjhaaLexk
import Derived.Test.YtknpabijhmcjhaaW
import Derived.Lib.ConvBytes
namespace Go.Proofs.Ytknpabijhmcjhaa
open Go.RowKit

theorem B.bytes {a w : World} (h : B a w) (e : TypeId) (s : ByteArray) : B a (Lib.bytesWorld w e s) :=
  ⟨⟨h.below.os, h.below.tape, h.below.output, by rw [Lib.bytesWorld_size]; have := h.below.size; omega, fun k hk => by
    rw [Lib.bytesWorld_at_old w e s k (Nat.lt_of_lt_of_le hk h.below.size)]
    exact h.below.block k hk⟩⟩
/-- What Number tells. -/
def NumRes (s : ByteArray) (w : World) (e : Ending) (w' : World) : Prop := e = .returned (.tuple #[.int .i64 ((numV s : Nat) : Int), .bool (numOk s)]) ∧ B w w'
theorem numRes_no {s : ByteArray} {w w' : World} (h : numOk s = false ∧ numV s = 0) (q : B w w') : NumRes s w (.returned (.tuple #[.int .i64 0, .bool false])) w' := ⟨by rw [h.1, h.2]; rfl, q⟩
theorem kind_dig {n : Nat} : digN n = true ↔ kindN n = 3 := by
  constructor
  · intro h
    have := digN_iff.1 h
    unfold kindN lowN capN
    simp only [Bool.and_eq_true, decide_eq_true_eq]
    rw [if_neg (by omega), if_neg (by omega), if_pos h]
  · intro h
    unfold kindN at h
    split at h; · omega
    split at h; · omega
    split at h
    · assumption
    repeat' (split at h)
    all_goals omega
theorem pick_dig {m d : Nat} (h : m = 48 + d) (hd : d ≤ 9) : IntKind.u8.wrap ((m : Int) - 48) = (d : Int) := by
  simp [IntKind.wrap, IntKind.signed, IntKind.bits]; omega
set_option maxHeartbeats 1000000 in
theorem number_any (s : ByteArray) (w : World) : Calls Try.prog 14 #[.string s] w (NumRes s w) := by
  have hE := toList_empty s
  have hZ := toList_zero s
  by_cases h1 : s.size < 1
  · rw [decide_eq_true h1] at hE
    have HR := Lib.hid (numRes_no (w := w) (w' := w) (num_no (s := s) (fun h => by omega)) (B.refl w))
    clear h1 hZ
    go_enter Try.func14, Try.ntmps14
    go_wp2
    go_ret2
    exact HR.out
  rw [decide_eq_false h1] at hE
  have hg0 : ∀ h : 0 < s.size, (s[0]'h).toNat = byteAt s 0 := fun h => byteAt_get s 0 h
  have hz : (0 : Int) < (s.size : Int) := by omega
  have hz' : 0 < s.size := by omega
  by_cases h2 : s.size ≠ 1 ∧ byteAt s 0 = 48
  · have HR := Lib.hid (numRes_no (w := w) (w' := w) (num_first h2.1 h2.2) (B.refl w))
    rw [decide_eq_false h2.1, Bool.false_and] at hZ
    obtain ⟨_, h3⟩ := h2
    rw [h3] at hg0
    clear h1 h3
    go_enter Try.func14, Try.ntmps14
    go_wp2
    go_ret2
    exact HR.out
  have hconv := fun w => Lib.run_convert_string_bytes (P := Try.prog) w 9 22 5 s Try.underlying9 Try.underlying22 Try.underlying5
  have hcell : ∀ j, j < s.size → (Lib.bytesWorld w 5 s).cell? ⟨w.heap.size, j, none⟩ = some (.int .u8 ((byteAt s j : Nat) : Int)) := fun j hj => Lib.bytesWorld_cell w _ s j hj
  have HB := Lib.hid ((B.refl w).bytes 5 s)
  have H1 := Lib.hid (show 1 ≤ s.size ∧ ¬ (2 ≤ s.size ∧ byteAt s 0 = 48) from ⟨by omega, fun h => h2 ⟨by omega, h.2⟩⟩)
  by_cases h3 : byteAt s 0 = 48
  · have h4 : s.size = 1 := by by_cases c : s.size = 1; · exact c
                               · exact absurd ⟨c, h3⟩ h2
    rw [decide_eq_true h4, decide_eq_true h3, Bool.true_and] at hZ
    have hg0' := hg0
    rw [h3] at hg0'
    have HS := Lib.hid (And.intro h3 h4)
    clear h1 h2 h3 h4 hg0
    have hg0 := hg0'
    clear hg0'
    go_enter Try.func14, Try.ntmps14
    go_wp2
    clear hE hZ hg0 
    generalize Lib.bytesWorld w 5 s = W1 at *
    generalize w.heap.size = H at *
    go_loopw [4, 21] (fun nv iv wr => ∃ k : Nat, k ≤ s.size ∧ iv = .int .i64 k ∧ nv = .int .i64 ((valTo s k : Nat) : Int) ∧ (∀ j, j < k → digN (byteAt s j) = true) ∧ valTo s k ≤ 1000000000000 ∧ W1 = wr) (fun _ iv _ => s.size + 1 - (intOf iv).toNat)
    case atStart => exact ⟨0, by omega, rfl, rfl, fun j hj => by omega, Nat.zero_le _, rfl⟩
    case round =>
      obtain ⟨k, hk, rfl, rfl, hall, hv, rfl⟩ := hrel
      have hshort := num_short H1.out.2 hk hall hv
      by_cases hl : k < s.size
      · have hlB : decide ((k : Int) < (s.size : Int)) = true := decide_eq_true (by omega)
        have hlI : (k : Int) < (s.size : Int) := by omega
        have wk1 : IntKind.i64.wrap ((k : Int) + 1) = (k : Int) + 1 := by rw [IntKind.wrap_i64]; omega
        have hc := hcell k hl
        have ck := fun w => kind_any (byteAt s k) w
        cases hd : digN (byteAt s k)
        · have hK : ((kindN (byteAt s k) : Int) != 3) = true := by
            have : kindN (byteAt s k) ≠ 3 := fun e => by rw [kind_dig.2 e] at hd; cases hd
            simp; omega
          have HR := Lib.hid (numRes_no (num_bad hl hd) HB.out)
          obtain ⟨m, hm⟩ : ∃ m, byteAt s k = m := ⟨_, rfl⟩
          rw [hm] at hc hK ck
          generalize kindN m = K at *
          clear hcell hall hv hd hm HB H1 hl hk
          go_wp2_with fail
          refine (ck _).mono ?_
          rintro e w1 ⟨rfl, rfl⟩
          clear ck
          go_wp2
          go_ret2
          exact HR.out
        · have hK : ((kindN (byteAt s k) : Int) != 3) = false := by
            have := kind_dig.1 hd
            simp; omega
          obtain ⟨d, d1, d2, d3⟩ := num_step hd
          have hall' : ∀ j, j < k + 1 → digN (byteAt s j) = true := fun j hj => by
            by_cases c : j = k
            · subst c; exact hd
            · exact hall j (by omega)
          obtain ⟨V, hV⟩ : ∃ V, valTo s k = V := ⟨_, rfl⟩
          obtain ⟨V', hV'⟩ : ∃ V', valTo s (k + 1) = V' := ⟨_, rfl⟩
          obtain ⟨T, hT⟩ : ∃ T, T = V * 10 := ⟨_, rfl⟩
          rw [hV] at hv
          have p1 : IntKind.i64.wrap ((V : Int) * 10) = (T : Int) := by rw [IntKind.wrap_i64]; omega
          have p2 := pick_dig d1 d2
          have p3 : IntKind.i64.wrap (d : Int) = (d : Int) := by rw [IntKind.wrap_i64]; omega
          have p4 : IntKind.i64.wrap ((T : Int) + (d : Int)) = (V' : Int) := by rw [IntKind.wrap_i64]; omega
          obtain ⟨m, hm⟩ : ∃ m, byteAt s k = m := ⟨_, rfl⟩
          rw [hm] at hc hK ck p2
          by_cases hbig : 1000000000000 < V'
          · have bB : decide ((1000000000000 : Int) < (V' : Int)) = true := decide_eq_true (by omega)
            have HR := Lib.hid (numRes_no (num_big (s := s) (k := k + 1) (by omega) (by rw [hV']; exact hbig)) HB.out)
            generalize kindN m = K at *
            rw [hV]
            clear hcell hall hall' hv hd hm HB H1 hl hk d1 d2 d3 hV hV' hT hbig
            go_wp2_with fail
            refine (ck _).mono ?_
            rintro e w1 ⟨rfl, rfl⟩
            clear ck
            go_wp2
            go_ret2
            exact HR.out
          · have bB : decide ((1000000000000 : Int) < (V' : Int)) = false := decide_eq_false (by omega)
            have HA := Lib.hid (And.intro hall' (And.intro hl (And.intro (show V' ≤ 1000000000000 by omega) hV')))
            generalize kindN m = K at *
            rw [hV]
            clear hcell hall hall' hv hd hm H1 hl hk d1 d2 d3 hV hV' hT hbig
            go_wp2_with fail
            refine (ck _).mono ?_
            rintro e w1 ⟨rfl, rfl⟩
            clear ck
            go_wp2
            go_roundw
            case rel => exact ⟨k + 1, by have := HA.out.2.1; omega, by go_num, by rw [HA.out.2.2.2], HA.out.1, by rw [HA.out.2.2.2]; exact HA.out.2.2.1, trivial⟩
            case measure => have := HA.out.2.1; simp [intOf]; omega
      · have hlB : decide ((k : Int) < (s.size : Int)) = false := decide_eq_false (by omega)
        have hk' : k = s.size := by omega
        have HR := Lib.hid (show NumRes s w (.returned (.tuple #[.int .i64 ((valTo s k : Nat) : Int), .bool true])) W1 from by
          obtain ⟨e1, e2⟩ := num_yes ⟨H1.out.1, H1.out.2, fun i hi => hall i (by omega), by rw [← hk']; exact hv⟩
          exact ⟨by rw [e1, e2, hk'], HB.out⟩)
        generalize valTo s k = V at *
        clear hcell hall hv HB H1 hk hk'
        go_wp2
        go_ret2
        exact HR.out
  · have e48 : ((byteAt s 0 : Int) == 48) = false := by simp; omega
    clear h1 h2
    generalize hb0 : byteAt s 0 = b0 at hg0 e48
    clear h3 hb0
    go_enter Try.func14, Try.ntmps14
    go_wp2
    clear hE hZ hg0 e48
    generalize Lib.bytesWorld w 5 s = W1 at *
    generalize w.heap.size = H at *
    go_loopw [4, 21] (fun nv iv wr => ∃ k : Nat, k ≤ s.size ∧ iv = .int .i64 k ∧ nv = .int .i64 ((valTo s k : Nat) : Int) ∧ (∀ j, j < k → digN (byteAt s j) = true) ∧ valTo s k ≤ 1000000000000 ∧ W1 = wr) (fun _ iv _ => s.size + 1 - (intOf iv).toNat)
    case atStart => exact ⟨0, by omega, rfl, rfl, fun j hj => by omega, Nat.zero_le _, rfl⟩
    case round =>
      obtain ⟨k, hk, rfl, rfl, hall, hv, rfl⟩ := hrel
      have hshort := num_short H1.out.2 hk hall hv
      by_cases hl : k < s.size
      · have hlB : decide ((k : Int) < (s.size : Int)) = true := decide_eq_true (by omega)
        have hlI : (k : Int) < (s.size : Int) := by omega
        have wk1 : IntKind.i64.wrap ((k : Int) + 1) = (k : Int) + 1 := by rw [IntKind.wrap_i64]; omega
        have hc := hcell k hl
        have ck := fun w => kind_any (byteAt s k) w
        cases hd : digN (byteAt s k)
        · have hK : ((kindN (byteAt s k) : Int) != 3) = true := by
            have : kindN (byteAt s k) ≠ 3 := fun e => by rw [kind_dig.2 e] at hd; cases hd
            simp; omega
          have HR := Lib.hid (numRes_no (num_bad hl hd) HB.out)
          obtain ⟨m, hm⟩ : ∃ m, byteAt s k = m := ⟨_, rfl⟩
          rw [hm] at hc hK ck
          generalize kindN m = K at *
          clear hcell hall hv hd hm HB H1 hl hk
          go_wp2_with fail
          refine (ck _).mono ?_
          rintro e w1 ⟨rfl, rfl⟩
          clear ck
          go_wp2
          go_ret2
          exact HR.out
        · have hK : ((kindN (byteAt s k) : Int) != 3) = false := by
            have := kind_dig.1 hd
            simp; omega
          obtain ⟨d, d1, d2, d3⟩ := num_step hd
          have hall' : ∀ j, j < k + 1 → digN (byteAt s j) = true := fun j hj => by
            by_cases c : j = k
            · subst c; exact hd
            · exact hall j (by omega)
          obtain ⟨V, hV⟩ : ∃ V, valTo s k = V := ⟨_, rfl⟩
          obtain ⟨V', hV'⟩ : ∃ V', valTo s (k + 1) = V' := ⟨_, rfl⟩
          obtain ⟨T, hT⟩ : ∃ T, T = V * 10 := ⟨_, rfl⟩
          rw [hV] at hv
          have p1 : IntKind.i64.wrap ((V : Int) * 10) = (T : Int) := by rw [IntKind.wrap_i64]; omega
          have p2 := pick_dig d1 d2
          have p3 : IntKind.i64.wrap (d : Int) = (d : Int) := by rw [IntKind.wrap_i64]; omega
          have p4 : IntKind.i64.wrap ((T : Int) + (d : Int)) = (V' : Int) := by rw [IntKind.wrap_i64]; omega
          obtain ⟨m, hm⟩ : ∃ m, byteAt s k = m := ⟨_, rfl⟩
          rw [hm] at hc hK ck p2
          by_cases hbig : 1000000000000 < V'
          · have bB : decide ((1000000000000 : Int) < (V' : Int)) = true := decide_eq_true (by omega)
            have HR := Lib.hid (numRes_no (num_big (s := s) (k := k + 1) (by omega) (by rw [hV']; exact hbig)) HB.out)
            generalize kindN m = K at *
            rw [hV]
            clear hcell hall hall' hv hd hm HB H1 hl hk d1 d2 d3 hV hV' hT hbig
            go_wp2_with fail
            refine (ck _).mono ?_
            rintro e w1 ⟨rfl, rfl⟩
            clear ck
            go_wp2
            go_ret2
            exact HR.out
          · have bB : decide ((1000000000000 : Int) < (V' : Int)) = false := decide_eq_false (by omega)
            have HA := Lib.hid (And.intro hall' (And.intro hl (And.intro (show V' ≤ 1000000000000 by omega) hV')))
            generalize kindN m = K at *
            rw [hV]
            clear hcell hall hall' hv hd hm H1 hl hk d1 d2 d3 hV hV' hT hbig
            go_wp2_with fail
            refine (ck _).mono ?_
            rintro e w1 ⟨rfl, rfl⟩
            clear ck
            go_wp2
            go_roundw
            case rel => exact ⟨k + 1, by have := HA.out.2.1; omega, by go_num, by rw [HA.out.2.2.2], HA.out.1, by rw [HA.out.2.2.2]; exact HA.out.2.2.1, trivial⟩
            case measure => have := HA.out.2.1; simp [intOf]; omega
      · have hlB : decide ((k : Int) < (s.size : Int)) = false := decide_eq_false (by omega)
        have hk' : k = s.size := by omega
        have HR := Lib.hid (show NumRes s w (.returned (.tuple #[.int .i64 ((valTo s k : Nat) : Int), .bool true])) W1 from by
          obtain ⟨e1, e2⟩ := num_yes ⟨H1.out.1, H1.out.2, fun i hi => hall i (by omega), by rw [← hk']; exact hv⟩
          exact ⟨by rw [e1, e2, hk'], HB.out⟩)
        generalize valTo s k = V at *
        clear hcell hall hv HB H1 hk hk'
        go_wp2
        go_ret2
        exact HR.out
end Go.Proofs.Ytknpabijhmcjhaa
