/-
  Contract of the code's Number; Contracts: the code's Name, the document's Number; The code's reading of lines of protocols: the small ones; The code's kind of a line; The code's within; The code's well: may a well be so written?.
-/
import Derived.Lib.ConvBytes
import Derived.Deep.QuietTactic
import Derived.BigQuiet
import Derived.Test.YthlileddhgglnaaDoorV1
import Derived.Test.YthlileddhgglnaaDoorV2
import Derived.Test.YthlileddhgglnaaDoorV3
import Derived.Test.YthlileddhgglnaaDoorV7
import Derived.Test.YthlileddhgglnaaDoorV10
import Derived.Test.YthlileddhgglnaaDoorV13
namespace Go.Proofs.YthlileddhgglnaaDoor
open Go.RowKit
theorem B.bytes {a w : World} (h : B a w) (e : TypeId) (s : ByteArray) : B a (Lib.bytesWorld w e s) :=
  ⟨⟨h.below.os, h.below.tape, h.below.output, by rw [Lib.bytesWorld_size]; have := h.below.size; omega, fun k hk => by
    rw [Lib.bytesWorld_at_old w e s k (Nat.lt_of_lt_of_le hk h.below.size)]
    exact h.below.block k hk⟩⟩
/-- What Number tells. -/
def NumRes (s : ByteArray) (w : World) (e : Ending) (w' : World) : Prop := e = .returned (.tuple #[.int .i64 ((numV s : Nat) : Int), .bool (numOk s)]) ∧ B w w'
theorem numRes_no {s : ByteArray} {w w' : World} (h : numOk s = false ∧ numV s = 0) (q : B w w') : NumRes s w (.returned (.tuple #[.int .i64 0, .bool false])) w' := ⟨by rw [h.1, h.2]; rfl, q⟩
theorem kind_dig {n : Nat} : digN n = true ↔ kindN n = 3 := by
  constructor
  · intro h
    have := digN_iff.1 h
    unfold kindN lowN capN
    simp only [Bool.and_eq_true, decide_eq_true_eq]
    rw [if_neg (by omega), if_neg (by omega), if_pos h]
  · intro h
    unfold kindN at h
    split at h; · omega
    split at h; · omega
    split at h
    · assumption
    repeat' (split at h)
    all_goals omega
theorem pick_dig {m d : Nat} (h : m = 48 + d) (hd : d ≤ 9) : IntKind.u8.wrap ((m : Int) - 48) = (d : Int) := by
  simp [IntKind.wrap, IntKind.signed, IntKind.bits]; omega
set_option maxHeartbeats 1000000 in
theorem number_any (s : ByteArray) (w : World) : Calls Tryd.prog 83 #[.string s] w (NumRes s w) := by
  have hE := toList_empty s
  have hZ := toList_zero s
  by_cases h1 : s.size < 1
  · rw [decide_eq_true h1] at hE
    have HR := Lib.hid (numRes_no (w := w) (w' := w) (num_no (s := s) (fun h => by omega)) (B.refl w))
    clear h1 hZ
    go_enter Tryd.func83, Tryd.ntmps83
    go_wp2
    go_ret2
    exact HR.out
  rw [decide_eq_false h1] at hE
  have hg0 : ∀ h : 0 < s.size, (s[0]'h).toNat = byteAt s 0 := fun h => byteAt_get s 0 h
  have hz : (0 : Int) < (s.size : Int) := by omega
  have hz' : 0 < s.size := by omega
  by_cases h2 : s.size ≠ 1 ∧ byteAt s 0 = 48
  · have HR := Lib.hid (numRes_no (w := w) (w' := w) (num_first h2.1 h2.2) (B.refl w))
    rw [decide_eq_false h2.1, Bool.false_and] at hZ
    obtain ⟨_, h3⟩ := h2
    rw [h3] at hg0
    clear h1 h3
    go_enter Tryd.func83, Tryd.ntmps83
    go_wp2
    go_ret2
    exact HR.out
  have hconv := fun w => Lib.run_convert_string_bytes (P := Tryd.prog) w 9 28 5 s Tryd.underlying9 Tryd.underlying28 Tryd.underlying5
  have hcell : ∀ j, j < s.size → (Lib.bytesWorld w 5 s).cell? ⟨w.heap.size, j, none⟩ = some (.int .u8 ((byteAt s j : Nat) : Int)) := fun j hj => Lib.bytesWorld_cell w _ s j hj
  have HB := Lib.hid ((B.refl w).bytes 5 s)
  have H1 := Lib.hid (show 1 ≤ s.size ∧ ¬ (2 ≤ s.size ∧ byteAt s 0 = 48) from ⟨by omega, fun h => h2 ⟨by omega, h.2⟩⟩)
  by_cases h3 : byteAt s 0 = 48
  · have h4 : s.size = 1 := by by_cases c : s.size = 1; · exact c
                               · exact absurd ⟨c, h3⟩ h2
    rw [decide_eq_true h4, decide_eq_true h3, Bool.true_and] at hZ
    have hg0' := hg0
    rw [h3] at hg0'
    have HS := Lib.hid (And.intro h3 h4)
    clear h1 h2 h3 h4 hg0
    have hg0 := hg0'
    clear hg0'
    go_enter Tryd.func83, Tryd.ntmps83
    go_wp2
    clear hE hZ hg0 
    generalize Lib.bytesWorld w 5 s = W1 at *
    generalize w.heap.size = H at *
    go_loopw [4, 21] (fun nv iv wr => ∃ k : Nat, k ≤ s.size ∧ iv = .int .i64 k ∧ nv = .int .i64 ((valTo s k : Nat) : Int) ∧ (∀ j, j < k → digN (byteAt s j) = true) ∧ valTo s k ≤ 1000000000000 ∧ W1 = wr) (fun _ iv _ => s.size + 1 - (intOf iv).toNat)
    case atStart => exact ⟨0, by omega, rfl, rfl, fun j hj => by omega, Nat.zero_le _, rfl⟩
    case round =>
      obtain ⟨k, hk, rfl, rfl, hall, hv, rfl⟩ := hrel
      have hshort := num_short H1.out.2 hk hall hv
      by_cases hl : k < s.size
      · have hlB : decide ((k : Int) < (s.size : Int)) = true := decide_eq_true (by omega)
        have hlI : (k : Int) < (s.size : Int) := by omega
        have wk1 : IntKind.i64.wrap ((k : Int) + 1) = (k : Int) + 1 := by rw [IntKind.wrap_i64]; omega
        have hc := hcell k hl
        have ck := fun w => kind_any (byteAt s k) w
        cases hd : digN (byteAt s k)
        · have hK : ((kindN (byteAt s k) : Int) != 3) = true := by
            have : kindN (byteAt s k) ≠ 3 := fun e => by rw [kind_dig.2 e] at hd; cases hd
            simp; omega
          have HR := Lib.hid (numRes_no (num_bad hl hd) HB.out)
          obtain ⟨m, hm⟩ : ∃ m, byteAt s k = m := ⟨_, rfl⟩
          rw [hm] at hc hK ck
          generalize kindN m = K at *
          clear hcell hall hv hd hm HB H1 hl hk
          go_wp2_with fail
          refine (ck _).mono ?_
          rintro e w1 ⟨rfl, rfl⟩
          clear ck
          go_wp2
          go_ret2
          exact HR.out
        · have hK : ((kindN (byteAt s k) : Int) != 3) = false := by
            have := kind_dig.1 hd
            simp; omega
          obtain ⟨d, d1, d2, d3⟩ := num_step hd
          have hall' : ∀ j, j < k + 1 → digN (byteAt s j) = true := fun j hj => by
            by_cases c : j = k
            · subst c; exact hd
            · exact hall j (by omega)
          obtain ⟨V, hV⟩ : ∃ V, valTo s k = V := ⟨_, rfl⟩
          obtain ⟨V', hV'⟩ : ∃ V', valTo s (k + 1) = V' := ⟨_, rfl⟩
          obtain ⟨T, hT⟩ : ∃ T, T = V * 10 := ⟨_, rfl⟩
          rw [hV] at hv
          have p1 : IntKind.i64.wrap ((V : Int) * 10) = (T : Int) := by rw [IntKind.wrap_i64]; omega
          have p2 := pick_dig d1 d2
          have p3 : IntKind.i64.wrap (d : Int) = (d : Int) := by rw [IntKind.wrap_i64]; omega
          have p4 : IntKind.i64.wrap ((T : Int) + (d : Int)) = (V' : Int) := by rw [IntKind.wrap_i64]; omega
          obtain ⟨m, hm⟩ : ∃ m, byteAt s k = m := ⟨_, rfl⟩
          rw [hm] at hc hK ck p2
          by_cases hbig : 1000000000000 < V'
          · have bB : decide ((1000000000000 : Int) < (V' : Int)) = true := decide_eq_true (by omega)
            have HR := Lib.hid (numRes_no (num_big (s := s) (k := k + 1) (by omega) (by rw [hV']; exact hbig)) HB.out)
            generalize kindN m = K at *
            rw [hV]
            clear hcell hall hall' hv hd hm HB H1 hl hk d1 d2 d3 hV hV' hT hbig
            go_wp2_with fail
            refine (ck _).mono ?_
            rintro e w1 ⟨rfl, rfl⟩
            clear ck
            go_wp2
            go_ret2
            exact HR.out
          · have bB : decide ((1000000000000 : Int) < (V' : Int)) = false := decide_eq_false (by omega)
            have HA := Lib.hid (And.intro hall' (And.intro hl (And.intro (show V' ≤ 1000000000000 by omega) hV')))
            generalize kindN m = K at *
            rw [hV]
            clear hcell hall hall' hv hd hm H1 hl hk d1 d2 d3 hV hV' hT hbig
            go_wp2_with fail
            refine (ck _).mono ?_
            rintro e w1 ⟨rfl, rfl⟩
            clear ck
            go_wp2
            go_roundw
            case rel => exact ⟨k + 1, by have := HA.out.2.1; omega, by go_num, by rw [HA.out.2.2.2], HA.out.1, by rw [HA.out.2.2.2]; exact HA.out.2.2.1, trivial⟩
            case measure => have := HA.out.2.1; simp [intOf]; omega
      · have hlB : decide ((k : Int) < (s.size : Int)) = false := decide_eq_false (by omega)
        have hk' : k = s.size := by omega
        have HR := Lib.hid (show NumRes s w (.returned (.tuple #[.int .i64 ((valTo s k : Nat) : Int), .bool true])) W1 from by
          obtain ⟨e1, e2⟩ := num_yes ⟨H1.out.1, H1.out.2, fun i hi => hall i (by omega), by rw [← hk']; exact hv⟩
          exact ⟨by rw [e1, e2, hk'], HB.out⟩)
        generalize valTo s k = V at *
        clear hcell hall hv HB H1 hk hk'
        go_wp2
        go_ret2
        exact HR.out
  · have e48 : ((byteAt s 0 : Int) == 48) = false := by simp; omega
    clear h1 h2
    generalize hb0 : byteAt s 0 = b0 at hg0 e48
    clear h3 hb0
    go_enter Tryd.func83, Tryd.ntmps83
    go_wp2
    clear hE hZ hg0 e48
    generalize Lib.bytesWorld w 5 s = W1 at *
    generalize w.heap.size = H at *
    go_loopw [4, 21] (fun nv iv wr => ∃ k : Nat, k ≤ s.size ∧ iv = .int .i64 k ∧ nv = .int .i64 ((valTo s k : Nat) : Int) ∧ (∀ j, j < k → digN (byteAt s j) = true) ∧ valTo s k ≤ 1000000000000 ∧ W1 = wr) (fun _ iv _ => s.size + 1 - (intOf iv).toNat)
    case atStart => exact ⟨0, by omega, rfl, rfl, fun j hj => by omega, Nat.zero_le _, rfl⟩
    case round =>
      obtain ⟨k, hk, rfl, rfl, hall, hv, rfl⟩ := hrel
      have hshort := num_short H1.out.2 hk hall hv
      by_cases hl : k < s.size
      · have hlB : decide ((k : Int) < (s.size : Int)) = true := decide_eq_true (by omega)
        have hlI : (k : Int) < (s.size : Int) := by omega
        have wk1 : IntKind.i64.wrap ((k : Int) + 1) = (k : Int) + 1 := by rw [IntKind.wrap_i64]; omega
        have hc := hcell k hl
        have ck := fun w => kind_any (byteAt s k) w
        cases hd : digN (byteAt s k)
        · have hK : ((kindN (byteAt s k) : Int) != 3) = true := by
            have : kindN (byteAt s k) ≠ 3 := fun e => by rw [kind_dig.2 e] at hd; cases hd
            simp; omega
          have HR := Lib.hid (numRes_no (num_bad hl hd) HB.out)
          obtain ⟨m, hm⟩ : ∃ m, byteAt s k = m := ⟨_, rfl⟩
          rw [hm] at hc hK ck
          generalize kindN m = K at *
          clear hcell hall hv hd hm HB H1 hl hk
          go_wp2_with fail
          refine (ck _).mono ?_
          rintro e w1 ⟨rfl, rfl⟩
          clear ck
          go_wp2
          go_ret2
          exact HR.out
        · have hK : ((kindN (byteAt s k) : Int) != 3) = false := by
            have := kind_dig.1 hd
            simp; omega
          obtain ⟨d, d1, d2, d3⟩ := num_step hd
          have hall' : ∀ j, j < k + 1 → digN (byteAt s j) = true := fun j hj => by
            by_cases c : j = k
            · subst c; exact hd
            · exact hall j (by omega)
          obtain ⟨V, hV⟩ : ∃ V, valTo s k = V := ⟨_, rfl⟩
          obtain ⟨V', hV'⟩ : ∃ V', valTo s (k + 1) = V' := ⟨_, rfl⟩
          obtain ⟨T, hT⟩ : ∃ T, T = V * 10 := ⟨_, rfl⟩
          rw [hV] at hv
          have p1 : IntKind.i64.wrap ((V : Int) * 10) = (T : Int) := by rw [IntKind.wrap_i64]; omega
          have p2 := pick_dig d1 d2
          have p3 : IntKind.i64.wrap (d : Int) = (d : Int) := by rw [IntKind.wrap_i64]; omega
          have p4 : IntKind.i64.wrap ((T : Int) + (d : Int)) = (V' : Int) := by rw [IntKind.wrap_i64]; omega
          obtain ⟨m, hm⟩ : ∃ m, byteAt s k = m := ⟨_, rfl⟩
          rw [hm] at hc hK ck p2
          by_cases hbig : 1000000000000 < V'
          · have bB : decide ((1000000000000 : Int) < (V' : Int)) = true := decide_eq_true (by omega)
            have HR := Lib.hid (numRes_no (num_big (s := s) (k := k + 1) (by omega) (by rw [hV']; exact hbig)) HB.out)
            generalize kindN m = K at *
            rw [hV]
            clear hcell hall hall' hv hd hm HB H1 hl hk d1 d2 d3 hV hV' hT hbig
            go_wp2_with fail
            refine (ck _).mono ?_
            rintro e w1 ⟨rfl, rfl⟩
            clear ck
            go_wp2
            go_ret2
            exact HR.out
          · have bB : decide ((1000000000000 : Int) < (V' : Int)) = false := decide_eq_false (by omega)
            have HA := Lib.hid (And.intro hall' (And.intro hl (And.intro (show V' ≤ 1000000000000 by omega) hV')))
            generalize kindN m = K at *
            rw [hV]
            clear hcell hall hall' hv hd hm H1 hl hk d1 d2 d3 hV hV' hT hbig
            go_wp2_with fail
            refine (ck _).mono ?_
            rintro e w1 ⟨rfl, rfl⟩
            clear ck
            go_wp2
            go_roundw
            case rel => exact ⟨k + 1, by have := HA.out.2.1; omega, by go_num, by rw [HA.out.2.2.2], HA.out.1, by rw [HA.out.2.2.2]; exact HA.out.2.2.1, trivial⟩
            case measure => have := HA.out.2.1; simp [intOf]; omega
      · have hlB : decide ((k : Int) < (s.size : Int)) = false := decide_eq_false (by omega)
        have hk' : k = s.size := by omega
        have HR := Lib.hid (show NumRes s w (.returned (.tuple #[.int .i64 ((valTo s k : Nat) : Int), .bool true])) W1 from by
          obtain ⟨e1, e2⟩ := num_yes ⟨H1.out.1, H1.out.2, fun i hi => hall i (by omega), by rw [← hk']; exact hv⟩
          exact ⟨by rw [e1, e2, hk'], HB.out⟩)
        generalize valTo s k = V at *
        clear hcell hall hv HB H1 hk hk'
        go_wp2
        go_ret2
        exact HR.out
end Go.Proofs.YthlileddhgglnaaDoor

namespace Go.Proofs.YthlileddhgglnaaDoor
open Go.RowKit
theorem kind_low {n : Nat} : lowN n = true ↔ kindN n = 1 := by
  constructor
  · intro h
    unfold kindN
    rw [if_pos h]
  · intro h
    unfold kindN at h
    split at h
    · assumption
    repeat' (split at h)
    all_goals omega
set_option maxHeartbeats 1000000 in
theorem name_any (s : ByteArray) (w : World) : Calls Tryd.prog 53 #[.string s] w fun e w' => e = .returned (.bool (nameS s)) ∧ B w w' := by
  have hE := toList_empty s
  by_cases h2 : 16 < s.size
  · have h2B : decide ((16 : Int) < (s.size : Int)) = true := decide_eq_true (by omega)
    rw [nameS_size (.inr h2)]
    clear h2 hE
    go_enter Tryd.func53, Tryd.ntmps53
    go_wp2
    go_ret
    exact ⟨rfl, B.refl _⟩
  have h2B : decide ((16 : Int) < (s.size : Int)) = false := decide_eq_false (by omega)
  by_cases h1 : s.size < 1
  · rw [decide_eq_true h1] at hE
    rw [nameS_size (.inl h1)]
    clear h1 h2
    go_enter Tryd.func53, Tryd.ntmps53
    go_wp2
    go_ret
    exact ⟨rfl, B.refl _⟩
  rw [decide_eq_false h1] at hE
  have hz : (0 : Int) < (s.size : Int) := by omega
  have hz' : 0 < s.size := by omega
  have hg0 : ∀ h : 0 < s.size, (s[0]'h).toNat = byteAt s 0 := fun h => byteAt_get s 0 h
  have ck := fun w => kind_any (byteAt s 0) w
  cases h3 : lowN (byteAt s 0)
  · have hK : ((kindN (byteAt s 0) : Int) != 1) = true := by
      have : kindN (byteAt s 0) ≠ 1 := fun e => by rw [kind_low.2 e] at h3; cases h3
      simp; omega
    rw [nameS_first h3]
    obtain ⟨m, hm⟩ : ∃ m, byteAt s 0 = m := ⟨_, rfl⟩
    rw [hm] at hg0 hK ck
    generalize kindN m = K at *
    clear h1 h2 h3 hm
    go_enter Tryd.func53, Tryd.ntmps53
    go_wp2_with fail
    refine (ck _).mono ?_
    rintro e w1 ⟨rfl, rfl⟩
    go_wp2
    go_ret
    exact ⟨rfl, B.refl _⟩
  have hK : ((kindN (byteAt s 0) : Int) != 1) = false := by
    have := kind_low.1 h3
    simp; omega
  have hconv := fun w => Lib.run_convert_string_bytes (P := Tryd.prog) w 9 28 5 s Tryd.underlying9 Tryd.underlying28 Tryd.underlying5
  have hcell : ∀ j, j < s.size → (Lib.bytesWorld w 5 s).cell? ⟨w.heap.size, j, none⟩ = some (.int .u8 ((byteAt s j : Nat) : Int)) := fun j hj => Lib.bytesWorld_cell w _ s j hj
  have HB := Lib.hid ((B.refl w).bytes 5 s)
  have hgood := Lib.hid (fun h => nameS_good (s := s) (by omega) (by omega) h3 h)
  have hbad := Lib.hid (show ∀ i, i < s.size → (lowN (byteAt s i) || digN (byteAt s i)) = false → nameS s = false from fun i h1 h2 => nameS_bad h1 h2)
  generalize nameS s = R at *
  have HSZ := Lib.hid (show s.size ≤ 16 by omega)
  generalize hb0 : byteAt s 0 = b0 at hg0 hK ck
  generalize kindN b0 = K at *
  clear h1 h2 h3 hb0
  go_enter Tryd.func53, Tryd.ntmps53
  go_wp2_with fail
  refine (ck _).mono ?_
  rintro e w1 ⟨rfl, rfl⟩
  clear ck
  go_wp2
  clear hg0 hK hE h2B
  generalize Lib.bytesWorld w 5 s = W1 at *
  generalize w.heap.size = H at *
  go_loopw [22] (fun iv wr => ∃ k : Nat, k ≤ s.size ∧ iv = .int .i64 k ∧ (∀ j, j < k → (lowN (byteAt s j) || digN (byteAt s j)) = true) ∧ W1 = wr) (fun iv _ => s.size + 1 - (intOf iv).toNat)
  case atStart => exact ⟨0, Nat.zero_le _, rfl, fun j hj => by omega, rfl⟩
  case round =>
    obtain ⟨k, hk, rfl, hall, rfl⟩ := hrel
    by_cases hl : k < s.size
    · have hlB : decide ((k : Int) < (s.size : Int)) = true := decide_eq_true (by omega)
      have hlI : (k : Int) < (s.size : Int) := by omega
      have wk1 : IntKind.i64.wrap ((k : Int) + 1) = (k : Int) + 1 := by have := HSZ.out; rw [IntKind.wrap_i64]; omega
      have hc := hcell k hl
      have ck := fun w => kind_any (byteAt s k) w
      have hnext : (lowN (byteAt s k) || digN (byteAt s k)) = true → ∀ j, j < k + 1 → (lowN (byteAt s j) || digN (byteAt s j)) = true := fun h j hj => by
        by_cases c : j = k
        · subst c; exact h
        · exact hall j (by omega)
      obtain ⟨m, hm⟩ : ∃ m, byteAt s k = m := ⟨_, rfl⟩
      have hb := hbad.out k hl
      rw [hm] at hc ck hnext hb
      by_cases c1 : kindN m = 1
      · have hK : ((kindN m : Int) != 1) = false := by simp; omega
        have HA := Lib.hid (And.intro (hnext (by rw [kind_low.2 c1]; rfl)) hl)
        generalize kindN m = K at *
        clear hnext hb hall hm c1 hcell hbad hgood HB hl hk
        go_wp2_with fail
        refine (ck _).mono ?_
        rintro e w1 ⟨rfl, rfl⟩
        clear ck
        go_wp2
        go_roundw
        case rel => exact ⟨k + 1, by have := HA.out.2; omega, by go_num, HA.out.1, trivial⟩
        case measure => have := HA.out.2; simp [intOf]; omega
      by_cases c3 : kindN m = 3
      · have hK : ((kindN m : Int) != 1) = true := by simp; omega
        have hK3 : ((kindN m : Int) != 3) = false := by simp; omega
        have HA := Lib.hid (And.intro (hnext (by rw [kind_dig.2 c3]; simp)) hl)
        generalize kindN m = K at *
        clear hnext hb hall hm c1 c3 hcell hbad hgood HB hl hk
        go_wp2_with fail
        refine (ck _).mono ?_
        rintro e w1 ⟨rfl, rfl⟩
        clear ck
        go_wp2
        go_roundw
        case rel => exact ⟨k + 1, by have := HA.out.2; omega, by go_num, HA.out.1, trivial⟩
        case measure => have := HA.out.2; simp [intOf]; omega
      · have hK : ((kindN m : Int) != 1) = true := by simp; omega
        have hK3 : ((kindN m : Int) != 3) = true := by simp; omega
        have e1 : lowN m = false := by
          cases h : lowN m
          · rfl
          · exact absurd (kind_low.1 h) c1
        have e3 : digN m = false := by
          cases h : digN m
          · rfl
          · exact absurd (kind_dig.1 h) c3
        obtain rfl := hb (by rw [e1, e3]; rfl)
        generalize kindN m = K at *
        clear hnext hb hall hm c1 c3 e1 e3 hcell hbad hgood hl hk
        go_wp2_with fail
        refine (ck _).mono ?_
        rintro e w1 ⟨rfl, rfl⟩
        clear ck
        go_wp2
        go_ret
        exact ⟨rfl, HB.out⟩
    · have hlB : decide ((k : Int) < (s.size : Int)) = false := decide_eq_false (by omega)
      have HR := Lib.hid (hgood.out (fun i hi => hall i (by omega)))
      clear hall hgood hbad hcell hk
      go_wp2
      go_ret
      exact ⟨by rw [HR.out]; rfl, HB.out⟩
end Go.Proofs.YthlileddhgglnaaDoor

namespace Go.Proofs.YthlileddhgglnaaDoor
open Go.RowKit
set_option linter.unusedVariables false
theorem pwithin_any (v a b : Int) (w : World) : Calls Tryd.prog 54 #[.int .i64 v, .int .i64 a, .int .i64 b] w fun x w' => x = .returned (.bool (decide (a ≤ v) && decide (v ≤ b))) ∧ w = w' := by
  cases k1 : decide (a ≤ v)
  · go_enter Tryd.func54, Tryd.ntmps54
    go_wp2
    go_ret
    exact ⟨by simp [*], rfl⟩
  · cases k2 : decide (v ≤ b)
    all_goals
      go_enter Tryd.func54, Tryd.ntmps54
      go_wp2
      go_ret
      exact ⟨by simp [*], rfl⟩
theorem unless_any (b : Bool) (n : Int) (w : World) : Calls Tryd.prog 71 #[.bool b, .int .i64 n] w fun x w' => x = .returned (.int .i64 (if b then 0 else n)) ∧ w = w' := by
  cases b
  all_goals
    go_enter Tryd.func71, Tryd.ntmps71
    go_wp2
    go_ret
    exact ⟨rfl, rfl⟩
theorem pnumber_any (s : ByteArray) (most : Nat) (w : World) : Calls Tryd.prog 73 #[.string s, .int .i64 (most : Int)] w fun x w' => x = .returned (.tuple #[.int .i64 ((numV s : Nat) : Int), .bool (numOk s && (decide (1 ≤ numV s) && decide (numV s ≤ most)))]) ∧ B w w' := by
  have c1 := number_any s w
  unfold NumRes at c1
  have c2 := fun w' => pwithin_any ((numV s : Nat) : Int) 1 (most : Int) w'
  have e1 : decide ((1 : Int) ≤ ((numV s : Nat) : Int)) = decide (1 ≤ numV s) := by by_cases h : 1 ≤ numV s <;> simp [h] <;> omega
  have e2 : decide (((numV s : Nat) : Int) ≤ (most : Int)) = decide (numV s ≤ most) := by by_cases h : numV s ≤ most <;> simp [h]
  rw [e1, e2] at c2
  generalize (decide (1 ≤ numV s) && decide (numV s ≤ most)) = b2 at *
  generalize numV s = V at *
  generalize numOk s = b1 at *
  clear e1 e2
  cases b1
  · go_enter Tryd.func73, Tryd.ntmps73
    go_wp2_with fail
    refine (Calls.mono c1 ?_)
    rintro _ w1 ⟨rfl, q1⟩
    have HQ := Lib.hid q1
    clear q1 c1
    go_wp2
    go_ret2
    exact ⟨rfl, HQ.out⟩
  · go_enter Tryd.func73, Tryd.ntmps73
    go_wp2_with fail
    refine (Calls.mono c1 ?_)
    rintro _ w1 ⟨rfl, q1⟩
    have HQ := Lib.hid q1
    clear q1 c1
    go_wp2_with fail
    refine (Calls.mono (c2 _) ?_)
    rintro _ w2 ⟨rfl, rfl⟩
    clear c2
    go_wp2
    go_ret2
    exact ⟨by simp, HQ.out⟩
set_option maxHeartbeats 1600000 in
theorem told_any (k i : Nat) (hk : k ≤ 6) (w : World) : Calls Tryd.prog 60 #[.int .i64 (k : Int), .int .i64 (i : Int)] w fun x w' => x = .returned (.int .i64 ((toldP k i : Nat) : Int)) ∧ w = w' := by
  have hk7 : k = 0 ∨ k = 1 ∨ k = 2 ∨ k = 3 ∨ k = 4 ∨ k = 5 ∨ k = 6 := by omega
  rcases hk7 with rfl | rfl | rfl | rfl | rfl | rfl | rfl
  · go_enter Tryd.func60, Tryd.ntmps60
    go_wp2
    go_ret
    exact ⟨rfl, rfl⟩
  · go_enter Tryd.func60, Tryd.ntmps60
    go_wp2
    go_ret
    exact ⟨rfl, rfl⟩
  · by_cases h3 : i = 3
    · subst h3
      go_enter Tryd.func60, Tryd.ntmps60
      go_wp2
      go_ret
      exact ⟨rfl, rfl⟩
    have b3 : ((i : Int) == 3) = false := by simp; omega
    have HR : toldP 2 i = 2 := by unfold toldP; simp [*]
    go_enter Tryd.func60, Tryd.ntmps60
    go_wp2
    go_ret
    exact ⟨by rw [HR]; rfl, rfl⟩
  · by_cases h2 : i = 2
    · subst h2
      go_enter Tryd.func60, Tryd.ntmps60
      go_wp2
      go_ret
      exact ⟨rfl, rfl⟩
    have b2 : ((i : Int) == 2) = false := by simp; omega
    have HR : toldP 3 i = 2 := by unfold toldP; simp [*]
    go_enter Tryd.func60, Tryd.ntmps60
    go_wp2
    go_ret
    exact ⟨by rw [HR]; rfl, rfl⟩
  · by_cases h2 : i = 2
    · subst h2
      go_enter Tryd.func60, Tryd.ntmps60
      go_wp2
      go_ret
      exact ⟨rfl, rfl⟩
    have b2 : ((i : Int) == 2) = false := by simp; omega
    have HR : toldP 4 i = 2 := by unfold toldP; simp [*]
    go_enter Tryd.func60, Tryd.ntmps60
    go_wp2
    go_ret
    exact ⟨by rw [HR]; rfl, rfl⟩
  · by_cases h3 : i = 3
    · subst h3
      go_enter Tryd.func60, Tryd.ntmps60
      go_wp2
      go_ret
      exact ⟨rfl, rfl⟩
    have b3 : ((i : Int) == 3) = false := by simp; omega
    by_cases h2 : i = 2
    · subst h2
      go_enter Tryd.func60, Tryd.ntmps60
      go_wp2
      go_ret
      exact ⟨rfl, rfl⟩
    have b2 : ((i : Int) == 2) = false := by simp; omega
    have HR : toldP 5 i = 2 := by unfold toldP; simp [*]
    go_enter Tryd.func60, Tryd.ntmps60
    go_wp2
    go_ret
    exact ⟨by rw [HR]; rfl, rfl⟩
  · by_cases h1 : i = 1
    · subst h1
      go_enter Tryd.func60, Tryd.ntmps60
      go_wp2
      go_ret
      exact ⟨rfl, rfl⟩
    have b1 : ((i : Int) == 1) = false := by simp; omega
    have HR : toldP 6 i = 2 := by unfold toldP; simp [*]
    go_enter Tryd.func60, Tryd.ntmps60
    go_wp2
    go_ret
    exact ⟨by rw [HR]; rfl, rfl⟩
end Go.Proofs.YthlileddhgglnaaDoor

namespace Go.Proofs.YthlileddhgglnaaDoor
open Go.RowKit
set_option linter.unusedVariables false
theorem strB_lst (l : List UInt8) : (strB l).toList = l := by rw [Go.Lib.toList_data]; rfl
/-- A line's kind is told. -/
def KindRes (x : Wd) (ws : List Wd) (w : World) (e : Ending) (w' : World) : Prop := ∃ k : Nat, e = .returned (.tuple #[.int .i64 (k : Int), .bool (headP (x :: ws)).isSome]) ∧ (∀ j, headP (x :: ws) = some j → k = j) ∧ k ≤ 6 ∧ B w w'
theorem kindRes_of {x : Wd} {ws : List Wd} {w w' : World} {k : Nat} {b : Bool} (hk : kindP x.2 = some k) (hb : (enoughP k (x :: ws).length && (decide (k ≠ 1) || oftenP (x :: ws))) = b) (q : B w w') : KindRes x ws w (.returned (.tuple #[.int .i64 (k : Int), .bool b])) w' := by
  have e : headP (x :: ws) = if b then some k else none := by
    unfold headP
    simp only [hk, hb]
  refine ⟨k, ?_, ?_, kindP_lt hk, q⟩
  · rw [e]; cases b <;> rfl
  · intro j hj
    rw [e] at hj
    cases b
    · cases hj
    · injection hj
theorem kindRes_none {x : Wd} {ws : List Wd} {w w' : World} (hk : kindP x.2 = none) (q : B w w') : KindRes x ws w (.returned (.tuple #[.int .i64 0, .bool false])) w' := by
  have e : headP (x :: ws) = none := by unfold headP; simp only [hk]
  exact ⟨0, (by rw [e]; rfl), (fun j hj => (by rw [e] at hj; cases hj)), (by omega), q⟩
set_option maxRecDepth 100000 in
set_option maxHeartbeats 4000000 in
theorem pkind_any (v : Value) (x : Wd) (ws : List Wd) (w : World) (h : IsWords w v (x :: ws)) (hz : ws.length ≤ 65536) : Calls Tryd.prog 58 #[v] w (KindRes x ws w) := by
  obtain ⟨g, lc, rfl, hle, hm, hlt, z⟩ := h.full (by simp)
  obtain ⟨_, x2⟩ := z 0 x rfl
  rw [Nat.zero_mul, Nat.zero_add] at x2
  obtain ⟨n, hn⟩ : ∃ n, (x :: ws).length = n := ⟨_, rfl⟩
  have hn0 : 1 ≤ n := by rw [← hn]; simp
  have hnI : (0 : Int) < (n : Int) := by omega
  have hnz : n ≤ 65537 := by rw [← hn]; simpa using hz
  obtain ⟨KS, hKS⟩ : ∃ KS, strB x.2 = KS := ⟨_, rfl⟩
  have hKt : KS.toList = x.2 := by rw [← hKS]; exact strB_lst _
  replace hKt := Lib.hid hKt
  rw [hKS] at x2
  clear hKS hle hm hlt h
  by_cases h0 : x.2 = kUse
  · have t0 : (KS.toList == [117, 115, 101]) = true := by rw [hKt.out, h0]; rfl
    have hk : kindP x.2 = some 0 := by unfold kindP; rw [if_pos h0]
    have HB := Lib.hid (B.refl w)
    clear h0
    have hb : (enoughP 0 (x :: ws).length && (decide (0 ≠ 1) || oftenP (x :: ws))) = decide (n = 2) := by rw [hn]; unfold enoughP; simp
    rw [hn]
    by_cases e2 : n = 2
    · subst e2
      have HR := Lib.hid (hb.trans (decide_eq_true rfl))
      clear z hn hb hnz
      go_enter Tryd.func58, Tryd.ntmps58
      go_wp2
      go_ret2
      exact kindRes_of hk HR.out HB.out
    · have b2 : ((n : Int) == 2) = false := by simp; omega
      have HR := Lib.hid (hb.trans (decide_eq_false e2))
      clear z hn hb hnz e2
      go_enter Tryd.func58, Tryd.ntmps58
      go_wp2
      go_ret2
      exact kindRes_of hk HR.out HB.out
  by_cases h1 : x.2 = kFresh
  · have t0 : (KS.toList == [117, 115, 101]) = false := by rw [hKt.out, beq_eq_false_iff_ne]; exact h0
    have t1 : (KS.toList == [102, 114, 101, 115, 104]) = true := by rw [hKt.out, h1]; rfl
    have hk : kindP x.2 = some 1 := by unfold kindP; rw [if_neg h0, if_pos h1]
    have HB := Lib.hid (B.refl w)
    clear h0 h1
    by_cases e2 : n = 2
    · obtain ⟨y, rfl⟩ : ∃ y, ws = [y] := by
        match ws, hn with
        | [y], _ => exact ⟨y, rfl⟩
        | [], h => simp at h; omega
        | _ :: _ :: _, h => simp at h; omega
      subst e2
      obtain ⟨_, y2⟩ := z 1 y rfl
      rw [show 1 * 2 + 1 = 3 from rfl] at y2
      obtain ⟨YS, hYS⟩ : ∃ YS, strB y.2 = YS := ⟨_, rfl⟩
      have hYt : YS.toList = y.2 := by rw [← hYS]; exact strB_lst _
      replace hYt := Lib.hid hYt
      rw [hYS] at y2
      clear hYS z hn0 hnz
      have hof : oftenP [x, y] = (decide (y.2 = kEach) || decide (y.2 = kOnce)) := rfl
      rw [hn]
      by_cases e1 : y.2 = kEach
      · have s1 : (YS.toList == [101, 97, 99, 104]) = true := by rw [hYt.out, e1]; rfl
        have HR := Lib.hid (show (enoughP 1 [x, y].length && (decide (1 ≠ 1) || oftenP [x, y])) = true by rw [hof, decide_eq_true e1]; rfl)
        clear e1 hof hn
        go_enter Tryd.func58, Tryd.ntmps58
        go_wp2_with fail
        go_quiet (fail)
        go_wp2
        go_ret2
        exact kindRes_of hk HR.out (HB.out.drewN _)
      · have s1 : (YS.toList == [101, 97, 99, 104]) = false := by rw [hYt.out, beq_eq_false_iff_ne]; exact e1
        by_cases e3 : y.2 = kOnce
        · have s2 : (YS.toList == [111, 110, 99, 101]) = true := by rw [hYt.out, e3]; rfl
          have HR := Lib.hid (show (enoughP 1 [x, y].length && (decide (1 ≠ 1) || oftenP [x, y])) = true by rw [hof, decide_eq_true e3, Bool.or_true]; rfl)
          clear e1 e3 hof hn
          go_enter Tryd.func58, Tryd.ntmps58
          go_wp2_with fail
          go_quiet (fail)
          go_wp2
          go_ret2
          exact kindRes_of hk HR.out (HB.out.drewN _)
        · have s2 : (YS.toList == [111, 110, 99, 101]) = false := by rw [hYt.out, beq_eq_false_iff_ne]; exact e3
          have HR := Lib.hid (show (enoughP 1 [x, y].length && (decide (1 ≠ 1) || oftenP [x, y])) = false by rw [hof, decide_eq_false e1, decide_eq_false e3]; rfl)
          clear e1 e3 hof hn
          go_enter Tryd.func58, Tryd.ntmps58
          go_wp2_with fail
          go_quiet (fail)
          go_wp2
          go_ret2
          exact kindRes_of hk HR.out (HB.out.drewN _)
    · have b2 : ((n : Int) == 2) = false := by simp; omega
      have HR := Lib.hid (show (enoughP 1 (x :: ws).length && (decide (1 ≠ 1) || oftenP (x :: ws))) = false by rw [hn]; unfold enoughP; simp [e2])
      rw [hn]
      clear z hn e2 hn0 hnz
      go_enter Tryd.func58, Tryd.ntmps58
      go_wp2_with fail
      go_quiet (fail)
      go_wp2
      go_ret2
      exact kindRes_of hk HR.out (HB.out.drewN _)
  by_cases h2 : x.2 = kTransfer
  · have t0 : (KS.toList == [117, 115, 101]) = false := by rw [hKt.out, beq_eq_false_iff_ne]; exact h0
    have t1 : (KS.toList == [102, 114, 101, 115, 104]) = false := by rw [hKt.out, beq_eq_false_iff_ne]; exact h1
    have t2 : (KS.toList == [116, 114, 97, 110, 115, 102, 101, 114]) = true := by rw [hKt.out, h2]; rfl
    have hk : kindP x.2 = some 2 := by unfold kindP; rw [if_neg h0, if_neg h1, if_pos h2]
    have HB := Lib.hid (B.refl w)
    clear h0 h1 h2
    have hb : (enoughP 2 (x :: ws).length && (decide (2 ≠ 1) || oftenP (x :: ws))) = decide (n = 4) := by rw [hn]; unfold enoughP; simp
    rw [hn]
    by_cases e2 : n = 4
    · subst e2
      have HR := Lib.hid (hb.trans (decide_eq_true rfl))
      clear z hn hb hnz
      go_enter Tryd.func58, Tryd.ntmps58
      go_wp2
      go_ret2
      exact kindRes_of hk HR.out HB.out
    · have b2 : ((n : Int) == 4) = false := by simp; omega
      have HR := Lib.hid (hb.trans (decide_eq_false e2))
      clear z hn hb hnz e2
      go_enter Tryd.func58, Tryd.ntmps58
      go_wp2
      go_ret2
      exact kindRes_of hk HR.out HB.out
  by_cases h3 : x.2 = kSpread
  · have t0 : (KS.toList == [117, 115, 101]) = false := by rw [hKt.out, beq_eq_false_iff_ne]; exact h0
    have t1 : (KS.toList == [102, 114, 101, 115, 104]) = false := by rw [hKt.out, beq_eq_false_iff_ne]; exact h1
    have t2 : (KS.toList == [116, 114, 97, 110, 115, 102, 101, 114]) = false := by rw [hKt.out, beq_eq_false_iff_ne]; exact h2
    have t3 : (KS.toList == [115, 112, 114, 101, 97, 100]) = true := by rw [hKt.out, h3]; rfl
    have hk : kindP x.2 = some 3 := by unfold kindP; rw [if_neg h0, if_neg h1, if_neg h2, if_pos h3]
    have HB := Lib.hid (B.refl w)
    clear h0 h1 h2 h3
    have hb : (enoughP 3 (x :: ws).length && (decide (3 ≠ 1) || oftenP (x :: ws))) = decide (4 ≤ n) := by rw [hn]; unfold enoughP; simp
    rw [hn]
    by_cases e2 : 4 ≤ n
    · have b2 : decide ((4 : Int) ≤ (n : Int)) = true := decide_eq_true (by omega)
      have b3 : decide (4 ≤ n) = true := decide_eq_true e2
      have HR := Lib.hid (hb.trans b3)
      clear z hn hb hnz e2
      go_enter Tryd.func58, Tryd.ntmps58
      go_wp2
      go_ret2
      exact kindRes_of hk HR.out HB.out
    · have b2 : decide ((4 : Int) ≤ (n : Int)) = false := decide_eq_false (by omega)
      have b3 : decide (4 ≤ n) = false := decide_eq_false e2
      have HR := Lib.hid (hb.trans b3)
      clear z hn hb hnz e2
      go_enter Tryd.func58, Tryd.ntmps58
      go_wp2
      go_ret2
      exact kindRes_of hk HR.out HB.out
  by_cases h4 : x.2 = kGather
  · have t0 : (KS.toList == [117, 115, 101]) = false := by rw [hKt.out, beq_eq_false_iff_ne]; exact h0
    have t1 : (KS.toList == [102, 114, 101, 115, 104]) = false := by rw [hKt.out, beq_eq_false_iff_ne]; exact h1
    have t2 : (KS.toList == [116, 114, 97, 110, 115, 102, 101, 114]) = false := by rw [hKt.out, beq_eq_false_iff_ne]; exact h2
    have t3 : (KS.toList == [115, 112, 114, 101, 97, 100]) = false := by rw [hKt.out, beq_eq_false_iff_ne]; exact h3
    have t4 : (KS.toList == [103, 97, 116, 104, 101, 114]) = true := by rw [hKt.out, h4]; rfl
    have hk : kindP x.2 = some 4 := by unfold kindP; rw [if_neg h0, if_neg h1, if_neg h2, if_neg h3, if_pos h4]
    have HB := Lib.hid (B.refl w)
    clear h0 h1 h2 h3 h4
    have hb : (enoughP 4 (x :: ws).length && (decide (4 ≠ 1) || oftenP (x :: ws))) = decide (4 ≤ n) := by rw [hn]; unfold enoughP; simp
    rw [hn]
    by_cases e2 : 4 ≤ n
    · have b2 : decide ((4 : Int) ≤ (n : Int)) = true := decide_eq_true (by omega)
      have b3 : decide (4 ≤ n) = true := decide_eq_true e2
      have HR := Lib.hid (hb.trans b3)
      clear z hn hb hnz e2
      go_enter Tryd.func58, Tryd.ntmps58
      go_wp2
      go_ret2
      exact kindRes_of hk HR.out HB.out
    · have b2 : decide ((4 : Int) ≤ (n : Int)) = false := decide_eq_false (by omega)
      have b3 : decide (4 ≤ n) = false := decide_eq_false e2
      have HR := Lib.hid (hb.trans b3)
      clear z hn hb hnz e2
      go_enter Tryd.func58, Tryd.ntmps58
      go_wp2
      go_ret2
      exact kindRes_of hk HR.out HB.out
  by_cases h5 : x.2 = kMix
  · have t0 : (KS.toList == [117, 115, 101]) = false := by rw [hKt.out, beq_eq_false_iff_ne]; exact h0
    have t1 : (KS.toList == [102, 114, 101, 115, 104]) = false := by rw [hKt.out, beq_eq_false_iff_ne]; exact h1
    have t2 : (KS.toList == [116, 114, 97, 110, 115, 102, 101, 114]) = false := by rw [hKt.out, beq_eq_false_iff_ne]; exact h2
    have t3 : (KS.toList == [115, 112, 114, 101, 97, 100]) = false := by rw [hKt.out, beq_eq_false_iff_ne]; exact h3
    have t4 : (KS.toList == [103, 97, 116, 104, 101, 114]) = false := by rw [hKt.out, beq_eq_false_iff_ne]; exact h4
    have t5 : (KS.toList == [109, 105, 120]) = true := by rw [hKt.out, h5]; rfl
    have hk : kindP x.2 = some 5 := by unfold kindP; rw [if_neg h0, if_neg h1, if_neg h2, if_neg h3, if_neg h4, if_pos h5]
    have HB := Lib.hid (B.refl w)
    clear h0 h1 h2 h3 h4 h5
    have hb : (enoughP 5 (x :: ws).length && (decide (5 ≠ 1) || oftenP (x :: ws))) = decide (n = 4) := by rw [hn]; unfold enoughP; simp
    rw [hn]
    by_cases e2 : n = 4
    · subst e2
      have HR := Lib.hid (hb.trans (decide_eq_true rfl))
      clear z hn hb hnz
      go_enter Tryd.func58, Tryd.ntmps58
      go_wp2
      go_ret2
      exact kindRes_of hk HR.out HB.out
    · have b2 : ((n : Int) == 4) = false := by simp; omega
      have HR := Lib.hid (hb.trans (decide_eq_false e2))
      clear z hn hb hnz e2
      go_enter Tryd.func58, Tryd.ntmps58
      go_wp2
      go_ret2
      exact kindRes_of hk HR.out HB.out
  by_cases h6 : x.2 = kDilute
  · have t0 : (KS.toList == [117, 115, 101]) = false := by rw [hKt.out, beq_eq_false_iff_ne]; exact h0
    have t1 : (KS.toList == [102, 114, 101, 115, 104]) = false := by rw [hKt.out, beq_eq_false_iff_ne]; exact h1
    have t2 : (KS.toList == [116, 114, 97, 110, 115, 102, 101, 114]) = false := by rw [hKt.out, beq_eq_false_iff_ne]; exact h2
    have t3 : (KS.toList == [115, 112, 114, 101, 97, 100]) = false := by rw [hKt.out, beq_eq_false_iff_ne]; exact h3
    have t4 : (KS.toList == [103, 97, 116, 104, 101, 114]) = false := by rw [hKt.out, beq_eq_false_iff_ne]; exact h4
    have t5 : (KS.toList == [109, 105, 120]) = false := by rw [hKt.out, beq_eq_false_iff_ne]; exact h5
    have t6 : (KS.toList == [100, 105, 108, 117, 116, 101]) = true := by rw [hKt.out, h6]; rfl
    have hk : kindP x.2 = some 6 := by unfold kindP; rw [if_neg h0, if_neg h1, if_neg h2, if_neg h3, if_neg h4, if_neg h5, if_pos h6]
    have HB := Lib.hid (B.refl w)
    clear h0 h1 h2 h3 h4 h5 h6
    have hb : (enoughP 6 (x :: ws).length && (decide (6 ≠ 1) || oftenP (x :: ws))) = decide (4 ≤ n) := by rw [hn]; unfold enoughP; simp
    rw [hn]
    by_cases e2 : 4 ≤ n
    · have b2 : decide ((4 : Int) ≤ (n : Int)) = true := decide_eq_true (by omega)
      have b3 : decide (4 ≤ n) = true := decide_eq_true e2
      have HR := Lib.hid (hb.trans b3)
      clear z hn hb hnz e2
      go_enter Tryd.func58, Tryd.ntmps58
      go_wp2
      go_ret2
      exact kindRes_of hk HR.out HB.out
    · have b2 : decide ((4 : Int) ≤ (n : Int)) = false := decide_eq_false (by omega)
      have b3 : decide (4 ≤ n) = false := decide_eq_false e2
      have HR := Lib.hid (hb.trans b3)
      clear z hn hb hnz e2
      go_enter Tryd.func58, Tryd.ntmps58
      go_wp2
      go_ret2
      exact kindRes_of hk HR.out HB.out
  have t0 : (KS.toList == [117, 115, 101]) = false := by rw [hKt.out, beq_eq_false_iff_ne]; exact h0
  have t1 : (KS.toList == [102, 114, 101, 115, 104]) = false := by rw [hKt.out, beq_eq_false_iff_ne]; exact h1
  have t2 : (KS.toList == [116, 114, 97, 110, 115, 102, 101, 114]) = false := by rw [hKt.out, beq_eq_false_iff_ne]; exact h2
  have t3 : (KS.toList == [115, 112, 114, 101, 97, 100]) = false := by rw [hKt.out, beq_eq_false_iff_ne]; exact h3
  have t4 : (KS.toList == [103, 97, 116, 104, 101, 114]) = false := by rw [hKt.out, beq_eq_false_iff_ne]; exact h4
  have t5 : (KS.toList == [109, 105, 120]) = false := by rw [hKt.out, beq_eq_false_iff_ne]; exact h5
  have t6 : (KS.toList == [100, 105, 108, 117, 116, 101]) = false := by rw [hKt.out, beq_eq_false_iff_ne]; exact h6
  have hk : kindP x.2 = none := by unfold kindP; rw [if_neg h0, if_neg h1, if_neg h2, if_neg h3, if_neg h4, if_neg h5, if_neg h6]
  clear h0 h1 h2 h3 h4 h5 h6
  rw [hn]
  have HB := Lib.hid (B.refl w)
  clear z hn hnz
  go_enter Tryd.func58, Tryd.ntmps58
  go_wp2
  go_ret2
  exact kindRes_none hk HB.out
end Go.Proofs.YthlileddhgglnaaDoor

namespace Go.Proofs.YthlileddhgglnaaDoor
open Go.RowKit
set_option linter.unusedVariables false
theorem wwithin_any (v e : Int) (w : World) : Calls Tryd.prog 90 #[.int .i64 v, .int .i64 e] w fun x w' => x = .returned (.bool (decide (0 ≤ v) && decide (v < e))) ∧ w = w' := by
  cases k1 : decide ((0 : Int) ≤ v)
  · go_enter Tryd.func90, Tryd.ntmps90
    go_wp2
    go_ret
    exact ⟨by simp [*], rfl⟩
  · cases k2 : decide (v < e)
    all_goals
      go_enter Tryd.func90, Tryd.ntmps90
      go_wp2
      go_ret
      exact ⟨by simp [*], rfl⟩
end Go.Proofs.YthlileddhgglnaaDoor

namespace Go.Proofs.YthlileddhgglnaaDoor
open Go.RowKit
set_option linter.unusedVariables false
/-- May a well be so written? -/
def wrB (n : ByteArray) (r c : Int) : Bool := nameS n && (decide (0 ≤ r) && decide (r < 8)) && (decide (0 ≤ c) && decide (c < 12))
theorem written_any (n : ByteArray) (r c : Int) (w : World) : Calls Tryd.prog 81 #[.string n, .int .i64 r, .int .i64 c] w fun x w' => x = .returned (.bool (wrB n r c)) ∧ B w w' := by
  have cn := fun w => name_any n w
  have cr := fun w => wwithin_any r 8 w
  have cc := fun w => wwithin_any c 12 w
  unfold wrB
  generalize nameS n = b at *
  generalize (decide (0 ≤ r) && decide (r < 8)) = b2 at *
  generalize (decide (0 ≤ c) && decide (c < 12)) = b3 at *
  cases b
  · go_enter Tryd.func81, Tryd.ntmps81
    go_wp2_with fail
    refine (cn _).mono ?_
    rintro _ w1 ⟨rfl, q1⟩
    go_wp2
    go_ret
    exact ⟨rfl, q1⟩
  · cases b2
    · go_enter Tryd.func81, Tryd.ntmps81
      go_wp2_with fail
      refine (cn _).mono ?_
      rintro _ w1 ⟨rfl, q1⟩
      go_wp2_with fail
      refine (cr _).mono ?_
      rintro _ _ ⟨rfl, rfl⟩
      go_wp2
      go_ret
      exact ⟨rfl, q1⟩
    · go_enter Tryd.func81, Tryd.ntmps81
      go_wp2_with fail
      refine (cn _).mono ?_
      rintro _ w1 ⟨rfl, q1⟩
      go_wp2_with fail
      refine (cr _).mono ?_
      rintro _ _ ⟨rfl, rfl⟩
      go_wp2_with fail
      refine (cc _).mono ?_
      rintro _ _ ⟨rfl, rfl⟩
      go_wp2
      go_ret
      exact ⟨by cases b3 <;> rfl, q1⟩
end Go.Proofs.YthlileddhgglnaaDoor
