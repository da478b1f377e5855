/-
  The code's kind of a line; The code's within; The code's well: may a well be so written?; Contracts of the library at this translation, laid by the shelf in plain words; strings.Cut at a dot; The code's wells: Parse, Text.
-/
import Derived.Test.YtnmcgleanpdlmaaDoorChecked
import Derived.Lib.Hide
import Derived.KernelRfl
import Derived.Shelf.Strings.Builder1
import Derived.Shelf.Strings.Builder2
import Derived.Shelf.Strings.OnBuilder
import Derived.Shelf.Strings.BuilderF
import Derived.Shelf.Strings.BuilderK
import Derived.Shelf.Strconv.Itoa0
import Derived.Shelf.Strconv.Itoa1
import Derived.Shelf.LaysM
import Derived.Shelf.Strconv.Itoa2
import Derived.Shelf.Strconv.Itoa3
import Derived.Shelf.Strconv.Itoa4
import Derived.Shelf.Strings.Search1
import Derived.Shelf.Strings.Search2
import Derived.Shelf.Strings.Cut
import Derived.Shelf.Strings.Shaped
import Derived.Shelf.Bytes.IndexByte
import Derived.Test.YtnmcgleanpdlmaaDoorProg
import Derived.Laws.Strings2
import Derived.Laws.Slices
import Derived.Test.YtnmcgleanpdlmaaDoorY1
import Derived.Test.YtnmcgleanpdlmaaDoorY2
import Derived.Test.YtnmcgleanpdlmaaDoorY3
import Derived.Test.YtnmcgleanpdlmaaDoorY4
import Derived.Test.YtnmcgleanpdlmaaDoorY7
import Derived.Test.YtnmcgleanpdlmaaDoorY9
import Derived.Test.YtnmcgleanpdlmaaDoorY10
namespace Go.Proofs.YtnmcgleanpdlmaaDoor
open Go.RowKit
set_option linter.unusedVariables false
theorem strB_lst (l : List UInt8) : (strB l).toList = l := by rw [Go.Lib.toList_data]; rfl
/-- A line's kind is told. -/
def KindRes (x : Wd) (ws : List Wd) (w : World) (e : Ending) (w' : World) : Prop := ∃ k : Nat, e = .returned (.tuple #[.int .i64 (k : Int), .bool (headP (x :: ws)).isSome]) ∧ (∀ j, headP (x :: ws) = some j → k = j) ∧ k ≤ 6 ∧ B w w'
theorem kindRes_of {x : Wd} {ws : List Wd} {w w' : World} {k : Nat} {b : Bool} (hk : kindP x.2 = some k) (hb : (enoughP k (x :: ws).length && (decide (k ≠ 1) || oftenP (x :: ws))) = b) (q : B w w') : KindRes x ws w (.returned (.tuple #[.int .i64 (k : Int), .bool b])) w' := by
  have e : headP (x :: ws) = if b then some k else none := by
    unfold headP
    simp only [hk, hb]
  refine ⟨k, ?_, ?_, kindP_lt hk, q⟩
  · rw [e]; cases b <;> rfl
  · intro j hj
    rw [e] at hj
    cases b
    · cases hj
    · injection hj
theorem kindRes_none {x : Wd} {ws : List Wd} {w w' : World} (hk : kindP x.2 = none) (q : B w w') : KindRes x ws w (.returned (.tuple #[.int .i64 0, .bool false])) w' := by
  have e : headP (x :: ws) = none := by unfold headP; simp only [hk]
  exact ⟨0, (by rw [e]; rfl), (fun j hj => (by rw [e] at hj; cases hj)), (by omega), q⟩
set_option maxRecDepth 100000 in
set_option maxHeartbeats 4000000 in
theorem pkind_any (v : Value) (x : Wd) (ws : List Wd) (w : World) (h : IsWords w v (x :: ws)) (hz : ws.length ≤ 65536) : Calls Tryd.prog 49 #[v] w (KindRes x ws w) := by
  obtain ⟨g, lc, rfl, hle, hm, hlt, z⟩ := h.full (by simp)
  obtain ⟨_, x2⟩ := z 0 x rfl
  rw [Nat.zero_mul, Nat.zero_add] at x2
  obtain ⟨n, hn⟩ : ∃ n, (x :: ws).length = n := ⟨_, rfl⟩
  have hn0 : 1 ≤ n := by rw [← hn]; simp
  have hnI : (0 : Int) < (n : Int) := by omega
  have hnz : n ≤ 65537 := by rw [← hn]; simpa using hz
  obtain ⟨KS, hKS⟩ : ∃ KS, strB x.2 = KS := ⟨_, rfl⟩
  have hKt : KS.toList = x.2 := by rw [← hKS]; exact strB_lst _
  replace hKt := Lib.hid hKt
  rw [hKS] at x2
  clear hKS hle hm hlt h
  by_cases h0 : x.2 = kUse
  · have t0 : (KS.toList == [117, 115, 101]) = true := by rw [hKt.out, h0]; rfl
    have hk : kindP x.2 = some 0 := by unfold kindP; rw [if_pos h0]
    have HB := Lib.hid (B.refl w)
    clear h0
    have hb : (enoughP 0 (x :: ws).length && (decide (0 ≠ 1) || oftenP (x :: ws))) = decide (n = 2) := by rw [hn]; unfold enoughP; simp
    rw [hn]
    by_cases e2 : n = 2
    · subst e2
      have HR := Lib.hid (hb.trans (decide_eq_true rfl))
      clear z hn hb hnz
      go_enter Tryd.func49, Tryd.ntmps49
      go_wp2
      go_ret2
      exact kindRes_of hk HR.out HB.out
    · have b2 : ((n : Int) == 2) = false := by simp; omega
      have HR := Lib.hid (hb.trans (decide_eq_false e2))
      clear z hn hb hnz e2
      go_enter Tryd.func49, Tryd.ntmps49
      go_wp2
      go_ret2
      exact kindRes_of hk HR.out HB.out
  by_cases h1 : x.2 = kFresh
  · have t0 : (KS.toList == [117, 115, 101]) = false := by rw [hKt.out, beq_eq_false_iff_ne]; exact h0
    have t1 : (KS.toList == [102, 114, 101, 115, 104]) = true := by rw [hKt.out, h1]; rfl
    have hk : kindP x.2 = some 1 := by unfold kindP; rw [if_neg h0, if_pos h1]
    have HB := Lib.hid (B.refl w)
    clear h0 h1
    by_cases e2 : n = 2
    · obtain ⟨y, rfl⟩ : ∃ y, ws = [y] := by
        match ws, hn with
        | [y], _ => exact ⟨y, rfl⟩
        | [], h => simp at h; omega
        | _ :: _ :: _, h => simp at h; omega
      subst e2
      obtain ⟨_, y2⟩ := z 1 y rfl
      rw [show 1 * 2 + 1 = 3 from rfl] at y2
      obtain ⟨YS, hYS⟩ : ∃ YS, strB y.2 = YS := ⟨_, rfl⟩
      have hYt : YS.toList = y.2 := by rw [← hYS]; exact strB_lst _
      replace hYt := Lib.hid hYt
      rw [hYS] at y2
      clear hYS z hn0 hnz
      have hof : oftenP [x, y] = (decide (y.2 = kEach) || decide (y.2 = kOnce)) := rfl
      rw [hn]
      by_cases e1 : y.2 = kEach
      · have s1 : (YS.toList == [101, 97, 99, 104]) = true := by rw [hYt.out, e1]; rfl
        have HR := Lib.hid (show (enoughP 1 [x, y].length && (decide (1 ≠ 1) || oftenP [x, y])) = true by rw [hof, decide_eq_true e1]; rfl)
        clear e1 hof hn
        go_enter Tryd.func49, Tryd.ntmps49
        go_wp2_with fail
        go_quiet (fail)
        go_wp2
        go_ret2
        exact kindRes_of hk HR.out (HB.out.drewN _)
      · have s1 : (YS.toList == [101, 97, 99, 104]) = false := by rw [hYt.out, beq_eq_false_iff_ne]; exact e1
        by_cases e3 : y.2 = kOnce
        · have s2 : (YS.toList == [111, 110, 99, 101]) = true := by rw [hYt.out, e3]; rfl
          have HR := Lib.hid (show (enoughP 1 [x, y].length && (decide (1 ≠ 1) || oftenP [x, y])) = true by rw [hof, decide_eq_true e3, Bool.or_true]; rfl)
          clear e1 e3 hof hn
          go_enter Tryd.func49, Tryd.ntmps49
          go_wp2_with fail
          go_quiet (fail)
          go_wp2
          go_ret2
          exact kindRes_of hk HR.out (HB.out.drewN _)
        · have s2 : (YS.toList == [111, 110, 99, 101]) = false := by rw [hYt.out, beq_eq_false_iff_ne]; exact e3
          have HR := Lib.hid (show (enoughP 1 [x, y].length && (decide (1 ≠ 1) || oftenP [x, y])) = false by rw [hof, decide_eq_false e1, decide_eq_false e3]; rfl)
          clear e1 e3 hof hn
          go_enter Tryd.func49, Tryd.ntmps49
          go_wp2_with fail
          go_quiet (fail)
          go_wp2
          go_ret2
          exact kindRes_of hk HR.out (HB.out.drewN _)
    · have b2 : ((n : Int) == 2) = false := by simp; omega
      have HR := Lib.hid (show (enoughP 1 (x :: ws).length && (decide (1 ≠ 1) || oftenP (x :: ws))) = false by rw [hn]; unfold enoughP; simp [e2])
      rw [hn]
      clear z hn e2 hn0 hnz
      go_enter Tryd.func49, Tryd.ntmps49
      go_wp2_with fail
      go_quiet (fail)
      go_wp2
      go_ret2
      exact kindRes_of hk HR.out (HB.out.drewN _)
  by_cases h2 : x.2 = kTransfer
  · have t0 : (KS.toList == [117, 115, 101]) = false := by rw [hKt.out, beq_eq_false_iff_ne]; exact h0
    have t1 : (KS.toList == [102, 114, 101, 115, 104]) = false := by rw [hKt.out, beq_eq_false_iff_ne]; exact h1
    have t2 : (KS.toList == [116, 114, 97, 110, 115, 102, 101, 114]) = true := by rw [hKt.out, h2]; rfl
    have hk : kindP x.2 = some 2 := by unfold kindP; rw [if_neg h0, if_neg h1, if_pos h2]
    have HB := Lib.hid (B.refl w)
    clear h0 h1 h2
    have hb : (enoughP 2 (x :: ws).length && (decide (2 ≠ 1) || oftenP (x :: ws))) = decide (n = 4) := by rw [hn]; unfold enoughP; simp
    rw [hn]
    by_cases e2 : n = 4
    · subst e2
      have HR := Lib.hid (hb.trans (decide_eq_true rfl))
      clear z hn hb hnz
      go_enter Tryd.func49, Tryd.ntmps49
      go_wp2
      go_ret2
      exact kindRes_of hk HR.out HB.out
    · have b2 : ((n : Int) == 4) = false := by simp; omega
      have HR := Lib.hid (hb.trans (decide_eq_false e2))
      clear z hn hb hnz e2
      go_enter Tryd.func49, Tryd.ntmps49
      go_wp2
      go_ret2
      exact kindRes_of hk HR.out HB.out
  by_cases h3 : x.2 = kSpread
  · have t0 : (KS.toList == [117, 115, 101]) = false := by rw [hKt.out, beq_eq_false_iff_ne]; exact h0
    have t1 : (KS.toList == [102, 114, 101, 115, 104]) = false := by rw [hKt.out, beq_eq_false_iff_ne]; exact h1
    have t2 : (KS.toList == [116, 114, 97, 110, 115, 102, 101, 114]) = false := by rw [hKt.out, beq_eq_false_iff_ne]; exact h2
    have t3 : (KS.toList == [115, 112, 114, 101, 97, 100]) = true := by rw [hKt.out, h3]; rfl
    have hk : kindP x.2 = some 3 := by unfold kindP; rw [if_neg h0, if_neg h1, if_neg h2, if_pos h3]
    have HB := Lib.hid (B.refl w)
    clear h0 h1 h2 h3
    have hb : (enoughP 3 (x :: ws).length && (decide (3 ≠ 1) || oftenP (x :: ws))) = decide (4 ≤ n) := by rw [hn]; unfold enoughP; simp
    rw [hn]
    by_cases e2 : 4 ≤ n
    · have b2 : decide ((4 : Int) ≤ (n : Int)) = true := decide_eq_true (by omega)
      have b3 : decide (4 ≤ n) = true := decide_eq_true e2
      have HR := Lib.hid (hb.trans b3)
      clear z hn hb hnz e2
      go_enter Tryd.func49, Tryd.ntmps49
      go_wp2
      go_ret2
      exact kindRes_of hk HR.out HB.out
    · have b2 : decide ((4 : Int) ≤ (n : Int)) = false := decide_eq_false (by omega)
      have b3 : decide (4 ≤ n) = false := decide_eq_false e2
      have HR := Lib.hid (hb.trans b3)
      clear z hn hb hnz e2
      go_enter Tryd.func49, Tryd.ntmps49
      go_wp2
      go_ret2
      exact kindRes_of hk HR.out HB.out
  by_cases h4 : x.2 = kGather
  · have t0 : (KS.toList == [117, 115, 101]) = false := by rw [hKt.out, beq_eq_false_iff_ne]; exact h0
    have t1 : (KS.toList == [102, 114, 101, 115, 104]) = false := by rw [hKt.out, beq_eq_false_iff_ne]; exact h1
    have t2 : (KS.toList == [116, 114, 97, 110, 115, 102, 101, 114]) = false := by rw [hKt.out, beq_eq_false_iff_ne]; exact h2
    have t3 : (KS.toList == [115, 112, 114, 101, 97, 100]) = false := by rw [hKt.out, beq_eq_false_iff_ne]; exact h3
    have t4 : (KS.toList == [103, 97, 116, 104, 101, 114]) = true := by rw [hKt.out, h4]; rfl
    have hk : kindP x.2 = some 4 := by unfold kindP; rw [if_neg h0, if_neg h1, if_neg h2, if_neg h3, if_pos h4]
    have HB := Lib.hid (B.refl w)
    clear h0 h1 h2 h3 h4
    have hb : (enoughP 4 (x :: ws).length && (decide (4 ≠ 1) || oftenP (x :: ws))) = decide (4 ≤ n) := by rw [hn]; unfold enoughP; simp
    rw [hn]
    by_cases e2 : 4 ≤ n
    · have b2 : decide ((4 : Int) ≤ (n : Int)) = true := decide_eq_true (by omega)
      have b3 : decide (4 ≤ n) = true := decide_eq_true e2
      have HR := Lib.hid (hb.trans b3)
      clear z hn hb hnz e2
      go_enter Tryd.func49, Tryd.ntmps49
      go_wp2
      go_ret2
      exact kindRes_of hk HR.out HB.out
    · have b2 : decide ((4 : Int) ≤ (n : Int)) = false := decide_eq_false (by omega)
      have b3 : decide (4 ≤ n) = false := decide_eq_false e2
      have HR := Lib.hid (hb.trans b3)
      clear z hn hb hnz e2
      go_enter Tryd.func49, Tryd.ntmps49
      go_wp2
      go_ret2
      exact kindRes_of hk HR.out HB.out
  by_cases h5 : x.2 = kMix
  · have t0 : (KS.toList == [117, 115, 101]) = false := by rw [hKt.out, beq_eq_false_iff_ne]; exact h0
    have t1 : (KS.toList == [102, 114, 101, 115, 104]) = false := by rw [hKt.out, beq_eq_false_iff_ne]; exact h1
    have t2 : (KS.toList == [116, 114, 97, 110, 115, 102, 101, 114]) = false := by rw [hKt.out, beq_eq_false_iff_ne]; exact h2
    have t3 : (KS.toList == [115, 112, 114, 101, 97, 100]) = false := by rw [hKt.out, beq_eq_false_iff_ne]; exact h3
    have t4 : (KS.toList == [103, 97, 116, 104, 101, 114]) = false := by rw [hKt.out, beq_eq_false_iff_ne]; exact h4
    have t5 : (KS.toList == [109, 105, 120]) = true := by rw [hKt.out, h5]; rfl
    have hk : kindP x.2 = some 5 := by unfold kindP; rw [if_neg h0, if_neg h1, if_neg h2, if_neg h3, if_neg h4, if_pos h5]
    have HB := Lib.hid (B.refl w)
    clear h0 h1 h2 h3 h4 h5
    have hb : (enoughP 5 (x :: ws).length && (decide (5 ≠ 1) || oftenP (x :: ws))) = decide (n = 4) := by rw [hn]; unfold enoughP; simp
    rw [hn]
    by_cases e2 : n = 4
    · subst e2
      have HR := Lib.hid (hb.trans (decide_eq_true rfl))
      clear z hn hb hnz
      go_enter Tryd.func49, Tryd.ntmps49
      go_wp2
      go_ret2
      exact kindRes_of hk HR.out HB.out
    · have b2 : ((n : Int) == 4) = false := by simp; omega
      have HR := Lib.hid (hb.trans (decide_eq_false e2))
      clear z hn hb hnz e2
      go_enter Tryd.func49, Tryd.ntmps49
      go_wp2
      go_ret2
      exact kindRes_of hk HR.out HB.out
  by_cases h6 : x.2 = kDilute
  · have t0 : (KS.toList == [117, 115, 101]) = false := by rw [hKt.out, beq_eq_false_iff_ne]; exact h0
    have t1 : (KS.toList == [102, 114, 101, 115, 104]) = false := by rw [hKt.out, beq_eq_false_iff_ne]; exact h1
    have t2 : (KS.toList == [116, 114, 97, 110, 115, 102, 101, 114]) = false := by rw [hKt.out, beq_eq_false_iff_ne]; exact h2
    have t3 : (KS.toList == [115, 112, 114, 101, 97, 100]) = false := by rw [hKt.out, beq_eq_false_iff_ne]; exact h3
    have t4 : (KS.toList == [103, 97, 116, 104, 101, 114]) = false := by rw [hKt.out, beq_eq_false_iff_ne]; exact h4
    have t5 : (KS.toList == [109, 105, 120]) = false := by rw [hKt.out, beq_eq_false_iff_ne]; exact h5
    have t6 : (KS.toList == [100, 105, 108, 117, 116, 101]) = true := by rw [hKt.out, h6]; rfl
    have hk : kindP x.2 = some 6 := by unfold kindP; rw [if_neg h0, if_neg h1, if_neg h2, if_neg h3, if_neg h4, if_neg h5, if_pos h6]
    have HB := Lib.hid (B.refl w)
    clear h0 h1 h2 h3 h4 h5 h6
    have hb : (enoughP 6 (x :: ws).length && (decide (6 ≠ 1) || oftenP (x :: ws))) = decide (4 ≤ n) := by rw [hn]; unfold enoughP; simp
    rw [hn]
    by_cases e2 : 4 ≤ n
    · have b2 : decide ((4 : Int) ≤ (n : Int)) = true := decide_eq_true (by omega)
      have b3 : decide (4 ≤ n) = true := decide_eq_true e2
      have HR := Lib.hid (hb.trans b3)
      clear z hn hb hnz e2
      go_enter Tryd.func49, Tryd.ntmps49
      go_wp2
      go_ret2
      exact kindRes_of hk HR.out HB.out
    · have b2 : decide ((4 : Int) ≤ (n : Int)) = false := decide_eq_false (by omega)
      have b3 : decide (4 ≤ n) = false := decide_eq_false e2
      have HR := Lib.hid (hb.trans b3)
      clear z hn hb hnz e2
      go_enter Tryd.func49, Tryd.ntmps49
      go_wp2
      go_ret2
      exact kindRes_of hk HR.out HB.out
  have t0 : (KS.toList == [117, 115, 101]) = false := by rw [hKt.out, beq_eq_false_iff_ne]; exact h0
  have t1 : (KS.toList == [102, 114, 101, 115, 104]) = false := by rw [hKt.out, beq_eq_false_iff_ne]; exact h1
  have t2 : (KS.toList == [116, 114, 97, 110, 115, 102, 101, 114]) = false := by rw [hKt.out, beq_eq_false_iff_ne]; exact h2
  have t3 : (KS.toList == [115, 112, 114, 101, 97, 100]) = false := by rw [hKt.out, beq_eq_false_iff_ne]; exact h3
  have t4 : (KS.toList == [103, 97, 116, 104, 101, 114]) = false := by rw [hKt.out, beq_eq_false_iff_ne]; exact h4
  have t5 : (KS.toList == [109, 105, 120]) = false := by rw [hKt.out, beq_eq_false_iff_ne]; exact h5
  have t6 : (KS.toList == [100, 105, 108, 117, 116, 101]) = false := by rw [hKt.out, beq_eq_false_iff_ne]; exact h6
  have hk : kindP x.2 = none := by unfold kindP; rw [if_neg h0, if_neg h1, if_neg h2, if_neg h3, if_neg h4, if_neg h5, if_neg h6]
  clear h0 h1 h2 h3 h4 h5 h6
  rw [hn]
  have HB := Lib.hid (B.refl w)
  clear z hn hnz
  go_enter Tryd.func49, Tryd.ntmps49
  go_wp2
  go_ret2
  exact kindRes_none hk HB.out
end Go.Proofs.YtnmcgleanpdlmaaDoor

namespace Go.Proofs.YtnmcgleanpdlmaaDoor
open Go.RowKit
set_option linter.unusedVariables false
theorem wwithin_any (v e : Int) (w : World) : Calls Tryd.prog 79 #[.int .i64 v, .int .i64 e] w fun x w' => x = .returned (.bool (decide (0 ≤ v) && decide (v < e))) ∧ w = w' := by
  cases k1 : decide ((0 : Int) ≤ v)
  · go_enter Tryd.func79, Tryd.ntmps79
    go_wp2
    go_ret
    exact ⟨by simp [*], rfl⟩
  · cases k2 : decide (v < e)
    all_goals
      go_enter Tryd.func79, Tryd.ntmps79
      go_wp2
      go_ret
      exact ⟨by simp [*], rfl⟩
end Go.Proofs.YtnmcgleanpdlmaaDoor

namespace Go.Proofs.YtnmcgleanpdlmaaDoor
open Go.RowKit
set_option linter.unusedVariables false
/-- May a well be so written? -/
def wrB (n : ByteArray) (r c : Int) : Bool := nameS n && (decide (0 ≤ r) && decide (r < 8)) && (decide (0 ≤ c) && decide (c < 12))
theorem written_any (n : ByteArray) (r c : Int) (w : World) : Calls Tryd.prog 70 #[.string n, .int .i64 r, .int .i64 c] w fun x w' => x = .returned (.bool (wrB n r c)) ∧ B w w' := by
  have cn := fun w => name_any n w
  have cr := fun w => wwithin_any r 8 w
  have cc := fun w => wwithin_any c 12 w
  unfold wrB
  generalize nameS n = b at *
  generalize (decide (0 ≤ r) && decide (r < 8)) = b2 at *
  generalize (decide (0 ≤ c) && decide (c < 12)) = b3 at *
  cases b
  · go_enter Tryd.func70, Tryd.ntmps70
    go_wp2_with fail
    refine (cn _).mono ?_
    rintro _ w1 ⟨rfl, q1⟩
    go_wp2
    go_ret
    exact ⟨rfl, q1⟩
  · cases b2
    · go_enter Tryd.func70, Tryd.ntmps70
      go_wp2_with fail
      refine (cn _).mono ?_
      rintro _ w1 ⟨rfl, q1⟩
      go_wp2_with fail
      refine (cr _).mono ?_
      rintro _ _ ⟨rfl, rfl⟩
      go_wp2
      go_ret
      exact ⟨rfl, q1⟩
    · go_enter Tryd.func70, Tryd.ntmps70
      go_wp2_with fail
      refine (cn _).mono ?_
      rintro _ w1 ⟨rfl, q1⟩
      go_wp2_with fail
      refine (cr _).mono ?_
      rintro _ _ ⟨rfl, rfl⟩
      go_wp2_with fail
      refine (cc _).mono ?_
      rintro _ _ ⟨rfl, rfl⟩
      go_wp2
      go_ret
      exact ⟨by cases b3 <;> rfl, q1⟩
theorem wrB_iff {n : ByteArray} {r c : Int} : wrB n r c = true ↔ nameS n = true ∧ 0 ≤ r ∧ r < 8 ∧ 0 ≤ c ∧ c < 12 := by
  unfold wrB
  simp only [Bool.and_eq_true, decide_eq_true_eq]
  constructor
  · rintro ⟨⟨h1, h2, h3⟩, h4, h5⟩; exact ⟨h1, h2, h3, h4, h5⟩
  · rintro ⟨h1, h2, h3, h4, h5⟩; exact ⟨⟨h1, h2, h3⟩, h4, h5⟩
end Go.Proofs.YtnmcgleanpdlmaaDoor

namespace Go.Proofs
open Go.Shelf
def Tryd.lays169_ren : Go.Shelf.Ren := ⟨fun | 169 => 25 | n => n, fun | 70 => 75 | 9 => 9 | 0 => 0 | 72 => 77 | 37 => 43 | 127 => 107 | 3 => 3 | 5 => 5 | n => n, fun | n => n⟩
theorem Tryd.lays169 : Go.Proofs.Lays.n169 Tryd.prog Tryd.lays169_ren := {
  mixed := by kernel_rfl
  f169 := Tryd.func25.trans (congrArg some (by kernel_rfl))
  t0 := Tryd.underlying0
  a0 := Tryd.isAgg0
  z0 := Tryd.sizeOf0
  v0 := Tryd.zeroValue0
  t3 := Tryd.underlying3
  a3 := Tryd.isAgg3
  z3 := Tryd.sizeOf3
  v3 := Tryd.zeroValue3
  t9 := Tryd.underlying9
  a9 := Tryd.isAgg9
  z9 := Tryd.sizeOf9
  v9 := Tryd.zeroValue9
  t37 := Tryd.underlying43
  a37 := Tryd.isAgg43
  z37 := Tryd.sizeOf43
  v37 := Tryd.zeroValue43
  t70 := Tryd.underlying75
  a70 := Tryd.isAgg75
  z70 := Tryd.sizeOf75
  v70 := Tryd.zeroValue75
  t72 := Tryd.underlying77
  a72 := Tryd.isAgg77
  z72 := Tryd.sizeOf77
  v72 := Tryd.zeroValue77
  t127 := Tryd.underlying107
  a127 := Tryd.isAgg107
  z127 := Tryd.sizeOf107
  v127 := Tryd.zeroValue107 }
theorem Tryd.Builder_Extra_169 : Builder.Extra Tryd.prog Tryd.lays169_ren := {
  sizeBuilder := by kernel_rfl
  liesBuilder := by kernel_rfl
  t5 := Tryd.underlying5
  a5 := Tryd.isAgg5
  z5 := Tryd.sizeOf5
  v5 := Tryd.zeroValue5
  infoByte := by kernel_rfl
  cellsByte := by kernel_rfl
  sizeByte := by kernel_rfl
  neB5 := by decide }
open Go.RowKit in
theorem Tryd.Builder_String_any (B b : Nat) (l : List UInt8) (w : World) (h : Lib.IsBuilder 77 5 B b (Lib.byteCells l) w) (hBw : B ≤ w.heap.size) :
    Calls Tryd.prog 25 #[.pointer (some ⟨b, 0, none⟩)] w fun e w' => e = .returned (.string ⟨l.toArray⟩) ∧ Below B w w' := Any.Builder_String_any Tryd.lays169 Tryd.Builder_Extra_169 B b l w h hBw
def Tryd.lays156_ren : Go.Shelf.Ren := ⟨fun | 156 => 22 | 165 => 37 | 166 => 21 | 169 => 25 | 240 => 36 | 241 => 56 | 276 => 55 | 277 => 65 | n => n, fun | 31 => 62 | 9 => 9 | 3 => 3 | 4 => 4 | 0 => 0 | 20 => 20 | 72 => 77 | 76 => 80 | 70 => 75 | 37 => 43 | 75 => 79 | 127 => 107 | 164 => 120 | 5 => 5 | 80 => 85 | n => n, fun | n => n⟩
theorem Tryd.lays156 : Go.Proofs.Lays.n156 Tryd.prog Tryd.lays156_ren := {
  mixed := by kernel_rfl
  f156 := Tryd.func22.trans (congrArg some (by kernel_rfl))
  f165 := Tryd.func37.trans (congrArg some (by kernel_rfl))
  f166 := Tryd.func21.trans (congrArg some (by kernel_rfl))
  f169 := Tryd.func25.trans (congrArg some (by kernel_rfl))
  f240 := Tryd.func36.trans (congrArg some (by kernel_rfl))
  f241 := Tryd.func56.trans (congrArg some (by kernel_rfl))
  f276 := Tryd.func55.trans (congrArg some (by kernel_rfl))
  f277 := Tryd.func65.trans (congrArg some (by kernel_rfl))
  t0 := Tryd.underlying0
  a0 := Tryd.isAgg0
  z0 := Tryd.sizeOf0
  v0 := Tryd.zeroValue0
  t3 := Tryd.underlying3
  a3 := Tryd.isAgg3
  z3 := Tryd.sizeOf3
  v3 := Tryd.zeroValue3
  t4 := Tryd.underlying4
  a4 := Tryd.isAgg4
  z4 := Tryd.sizeOf4
  v4 := Tryd.zeroValue4
  t9 := Tryd.underlying9
  a9 := Tryd.isAgg9
  z9 := Tryd.sizeOf9
  v9 := Tryd.zeroValue9
  t20 := Tryd.underlying20
  a20 := Tryd.isAgg20
  z20 := Tryd.sizeOf20
  v20 := Tryd.zeroValue20
  t31 := Tryd.underlying62
  a31 := Tryd.isAgg62
  z31 := Tryd.sizeOf62
  v31 := Tryd.zeroValue62
  t37 := Tryd.underlying43
  a37 := Tryd.isAgg43
  z37 := Tryd.sizeOf43
  v37 := Tryd.zeroValue43
  t70 := Tryd.underlying75
  a70 := Tryd.isAgg75
  z70 := Tryd.sizeOf75
  v70 := Tryd.zeroValue75
  t72 := Tryd.underlying77
  a72 := Tryd.isAgg77
  z72 := Tryd.sizeOf77
  v72 := Tryd.zeroValue77
  t75 := Tryd.underlying79
  a75 := Tryd.isAgg79
  z75 := Tryd.sizeOf79
  v75 := Tryd.zeroValue79
  t76 := Tryd.underlying80
  a76 := Tryd.isAgg80
  z76 := Tryd.sizeOf80
  v76 := Tryd.zeroValue80
  t127 := Tryd.underlying107
  a127 := Tryd.isAgg107
  z127 := Tryd.sizeOf107
  v127 := Tryd.zeroValue107
  t164 := Tryd.underlying120
  a164 := Tryd.isAgg120
  z164 := Tryd.sizeOf120
  v164 := Tryd.zeroValue120 }
theorem Tryd.Builder_Extra_156 : Builder.Extra Tryd.prog Tryd.lays156_ren := {
  sizeBuilder := by kernel_rfl
  liesBuilder := by kernel_rfl
  t5 := Tryd.underlying5
  a5 := Tryd.isAgg5
  z5 := Tryd.sizeOf5
  v5 := Tryd.zeroValue5
  infoByte := by kernel_rfl
  cellsByte := by kernel_rfl
  sizeByte := by kernel_rfl
  neB5 := by decide }
open Go.RowKit in
theorem Tryd.strings_Join (bk o c : Nat) (xs : List ByteArray) (sep : ByteArray) (w : World) (hcells : ∀ (j : Nat) x, xs[j]? = some x → w.cell? ⟨bk, o + j, none⟩ = some (.string x)) (hbk : bk < w.heap.size) (hN : xs.length ≤ 140737488355328) (hcap : xs.length ≤ c) (hlen : (Lib.join (xs.map (·.data.toList)) sep.data.toList).length ≤ 140737488355328) :
    Calls Tryd.prog 22 #[.slice (some ⟨bk, o, none⟩) xs.length c, .string sep] w fun e w' => e = .returned (.string ⟨(Lib.join (xs.map (·.data.toList)) sep.data.toList).toArray⟩) ∧ Below w.heap.size w w' := Any.strings_Join Tryd.lays156 Tryd.Builder_Extra_156 bk o c xs sep w hcells hbk hN hcap hlen
def Tryd.laysM171_ren : Go.Shelf.Ren := ⟨fun | 171 => 40 | 243 => 59 | 246 => 57 | 283 => 66 | 284 => 67 | 285 => 68 | 286 => 69 | 129 => 75 | 317 => 74 | 318 => 76 | 319 => 77 | 320 => 78 | 337 => 81 | 338 => 82 | n => n, fun | 3 => 3 | 9 => 9 | 2 => 2 | 4 => 4 | 171 => 128 | 0 => 0 | 53 => 129 | 37 => 43 | 5 => 5 | 173 => 132 | 212 => 140 | 51 => 58 | 20 => 20 | 213 => 141 | 46 => 143 | 232 => 148 | 233 => 149 | n => n, fun | 17 => 1 | 18 => 2 | 19 => 3 | n => n⟩
theorem Tryd.laysM171 : Go.Proofs.LaysM.n171 Tryd.prog Tryd.laysM171_ren := {
  mixed := by kernel_rfl
  f129 := Tryd.func75.trans (congrArg some (by kernel_rfl))
  f171 := Tryd.func40.trans (congrArg some (by kernel_rfl))
  f243 := Tryd.func59.trans (congrArg some (by kernel_rfl))
  f246 := Tryd.func57.trans (congrArg some (by kernel_rfl))
  f283 := Tryd.func66.trans (congrArg some (by kernel_rfl))
  f284 := Tryd.func67.trans (congrArg some (by kernel_rfl))
  f285 := Tryd.func68.trans (congrArg some (by kernel_rfl))
  f286 := Tryd.func69.trans (congrArg some (by kernel_rfl))
  f317 := Tryd.func74.trans (congrArg some (by kernel_rfl))
  f318 := Tryd.func76.trans (congrArg some (by kernel_rfl))
  f319 := Tryd.func77.trans (congrArg some (by kernel_rfl))
  f320 := Tryd.func78.trans (congrArg some (by kernel_rfl))
  f337 := Tryd.func81.trans (congrArg some (by kernel_rfl))
  f338 := Tryd.func82.trans (congrArg some (by kernel_rfl))
  t0 := Tryd.underlying0
  a0 := Tryd.isAgg0
  z0 := Tryd.sizeOf0
  v0 := Tryd.zeroValue0
  t2 := Tryd.underlying2
  a2 := Tryd.isAgg2
  z2 := Tryd.sizeOf2
  v2 := Tryd.zeroValue2
  t3 := Tryd.underlying3
  a3 := Tryd.isAgg3
  z3 := Tryd.sizeOf3
  v3 := Tryd.zeroValue3
  t4 := Tryd.underlying4
  a4 := Tryd.isAgg4
  z4 := Tryd.sizeOf4
  v4 := Tryd.zeroValue4
  t5 := Tryd.underlying5
  a5 := Tryd.isAgg5
  z5 := Tryd.sizeOf5
  v5 := Tryd.zeroValue5
  t9 := Tryd.underlying9
  a9 := Tryd.isAgg9
  z9 := Tryd.sizeOf9
  v9 := Tryd.zeroValue9
  t20 := Tryd.underlying20
  a20 := Tryd.isAgg20
  z20 := Tryd.sizeOf20
  v20 := Tryd.zeroValue20
  t37 := Tryd.underlying43
  a37 := Tryd.isAgg43
  z37 := Tryd.sizeOf43
  v37 := Tryd.zeroValue43
  t46 := Tryd.underlying143
  a46 := Tryd.isAgg143
  z46 := Tryd.sizeOf143
  v46 := Tryd.zeroValue143
  t51 := Tryd.underlying58
  a51 := Tryd.isAgg58
  z51 := Tryd.sizeOf58
  v51 := Tryd.zeroValue58
  t53 := Tryd.underlying129
  a53 := Tryd.isAgg129
  z53 := Tryd.sizeOf129
  v53 := Tryd.zeroValue129
  t171 := Tryd.underlying128
  a171 := Tryd.isAgg128
  z171 := Tryd.sizeOf128
  v171 := Tryd.zeroValue128
  t173 := Tryd.underlying132
  a173 := Tryd.isAgg132
  z173 := Tryd.sizeOf132
  v173 := Tryd.zeroValue132
  t212 := Tryd.underlying140
  a212 := Tryd.isAgg140
  z212 := Tryd.sizeOf140
  v212 := Tryd.zeroValue140
  t213 := Tryd.underlying141
  a213 := Tryd.isAgg141
  z213 := Tryd.sizeOf141
  t232 := Tryd.underlying148
  a232 := Tryd.isAgg148
  z232 := Tryd.sizeOf148
  v232 := Tryd.zeroValue148
  t233 := Tryd.underlying149
  a233 := Tryd.isAgg149
  z233 := Tryd.sizeOf149
  v233 := Tryd.zeroValue149
  g17 := by kernel_rfl
  g18 := by kernel_rfl
  g19 := by kernel_rfl
  i0 := by kernel_rfl
  i2 := by kernel_rfl
  i3 := by kernel_rfl
  i4 := by kernel_rfl
  i5 := by kernel_rfl
  i9 := by kernel_rfl
  i20 := by kernel_rfl
  i37 := by kernel_rfl
  i46 := by kernel_rfl
  i51 := by kernel_rfl
  i53 := by kernel_rfl
  i171 := by kernel_rfl
  i173 := by kernel_rfl
  i212 := by kernel_rfl
  i232 := by kernel_rfl
  i233 := by kernel_rfl
  m17 := by kernel_rfl
  m18 := by kernel_rfl
  m19 := by kernel_rfl }
open Go.RowKit Go.Sort Go.Lib in
theorem Tryd.strconv_Itoa (n : Int) (h0 : -9223372036854775808 ≤ n) (h1 : n ≤ 9223372036854775807) (w : World) (htab : Lib.TabIs Tryd.prog w "internal/strconv.uint64pow10" .u64 Lib.pow10Tab) :
    Calls Tryd.prog 40 #[.int .i64 n] w fun e w' => e = .returned (.string ⟨(Lib.itoa n).toArray⟩) ∧ ∃ k os, w' = grow (w.drewN k) os := Any.strconv_Itoa Tryd.laysM171 n h0 h1 w htab
def Tryd.lays171_ren : Go.Shelf.Ren := ⟨fun | 171 => 40 | 243 => 59 | 246 => 57 | 283 => 66 | 284 => 67 | 285 => 68 | 286 => 69 | 129 => 75 | 317 => 74 | 318 => 76 | 319 => 77 | 320 => 78 | 337 => 81 | 338 => 82 | n => n, fun | 3 => 3 | 9 => 9 | 2 => 2 | 4 => 4 | 171 => 128 | 0 => 0 | 53 => 129 | 37 => 43 | 5 => 5 | 173 => 132 | 212 => 140 | 51 => 58 | 20 => 20 | 213 => 141 | 46 => 143 | 232 => 148 | 233 => 149 | n => n, fun | 17 => 1 | 18 => 2 | 19 => 3 | n => n⟩
theorem Tryd.lays171 : Go.Proofs.Lays.n171 Tryd.prog Tryd.lays171_ren := {
  mixed := by kernel_rfl
  f129 := Tryd.func75.trans (congrArg some (by kernel_rfl))
  f171 := Tryd.func40.trans (congrArg some (by kernel_rfl))
  f243 := Tryd.func59.trans (congrArg some (by kernel_rfl))
  f246 := Tryd.func57.trans (congrArg some (by kernel_rfl))
  f283 := Tryd.func66.trans (congrArg some (by kernel_rfl))
  f284 := Tryd.func67.trans (congrArg some (by kernel_rfl))
  f285 := Tryd.func68.trans (congrArg some (by kernel_rfl))
  f286 := Tryd.func69.trans (congrArg some (by kernel_rfl))
  f317 := Tryd.func74.trans (congrArg some (by kernel_rfl))
  f318 := Tryd.func76.trans (congrArg some (by kernel_rfl))
  f319 := Tryd.func77.trans (congrArg some (by kernel_rfl))
  f320 := Tryd.func78.trans (congrArg some (by kernel_rfl))
  f337 := Tryd.func81.trans (congrArg some (by kernel_rfl))
  f338 := Tryd.func82.trans (congrArg some (by kernel_rfl))
  t0 := Tryd.underlying0
  a0 := Tryd.isAgg0
  z0 := Tryd.sizeOf0
  v0 := Tryd.zeroValue0
  t2 := Tryd.underlying2
  a2 := Tryd.isAgg2
  z2 := Tryd.sizeOf2
  v2 := Tryd.zeroValue2
  t3 := Tryd.underlying3
  a3 := Tryd.isAgg3
  z3 := Tryd.sizeOf3
  v3 := Tryd.zeroValue3
  t4 := Tryd.underlying4
  a4 := Tryd.isAgg4
  z4 := Tryd.sizeOf4
  v4 := Tryd.zeroValue4
  t5 := Tryd.underlying5
  a5 := Tryd.isAgg5
  z5 := Tryd.sizeOf5
  v5 := Tryd.zeroValue5
  t9 := Tryd.underlying9
  a9 := Tryd.isAgg9
  z9 := Tryd.sizeOf9
  v9 := Tryd.zeroValue9
  t20 := Tryd.underlying20
  a20 := Tryd.isAgg20
  z20 := Tryd.sizeOf20
  v20 := Tryd.zeroValue20
  t37 := Tryd.underlying43
  a37 := Tryd.isAgg43
  z37 := Tryd.sizeOf43
  v37 := Tryd.zeroValue43
  t46 := Tryd.underlying143
  a46 := Tryd.isAgg143
  z46 := Tryd.sizeOf143
  v46 := Tryd.zeroValue143
  t51 := Tryd.underlying58
  a51 := Tryd.isAgg58
  z51 := Tryd.sizeOf58
  v51 := Tryd.zeroValue58
  t53 := Tryd.underlying129
  a53 := Tryd.isAgg129
  z53 := Tryd.sizeOf129
  v53 := Tryd.zeroValue129
  t171 := Tryd.underlying128
  a171 := Tryd.isAgg128
  z171 := Tryd.sizeOf128
  v171 := Tryd.zeroValue128
  t173 := Tryd.underlying132
  a173 := Tryd.isAgg132
  z173 := Tryd.sizeOf132
  v173 := Tryd.zeroValue132
  t212 := Tryd.underlying140
  a212 := Tryd.isAgg140
  z212 := Tryd.sizeOf140
  v212 := Tryd.zeroValue140
  t213 := Tryd.underlying141
  a213 := Tryd.isAgg141
  z213 := Tryd.sizeOf141
  t232 := Tryd.underlying148
  a232 := Tryd.isAgg148
  z232 := Tryd.sizeOf148
  v232 := Tryd.zeroValue148
  t233 := Tryd.underlying149
  a233 := Tryd.isAgg149
  z233 := Tryd.sizeOf149
  v233 := Tryd.zeroValue149
  g17 := by kernel_rfl
  g18 := by kernel_rfl
  g19 := by kernel_rfl }
open Go.RowKit Go.Sort Go.Lib in
theorem Tryd.strconv_Itoa_small (i : Nat) (hi : i < 100) (w : World) :
    Calls Tryd.prog 40 #[.int .i64 i] w fun e w' => e = .returned (.string ⟨(Lib.decDigits i).toArray⟩) ∧ w' = w := Any.strconv_Itoa_small Tryd.lays171 i hi w
def Tryd.laysM173_ren : Go.Shelf.Ren := ⟨fun | 173 => 38 | 246 => 57 | 283 => 66 | 284 => 67 | 285 => 68 | 286 => 69 | 129 => 75 | 317 => 74 | 318 => 76 | 319 => 77 | 320 => 78 | 337 => 81 | 338 => 82 | n => n, fun | 2 => 2 | 3 => 3 | 9 => 9 | 4 => 4 | 171 => 128 | 0 => 0 | 53 => 129 | 37 => 43 | 5 => 5 | 173 => 132 | 212 => 140 | 51 => 58 | 20 => 20 | 213 => 141 | 46 => 143 | 232 => 148 | 233 => 149 | n => n, fun | 17 => 1 | 18 => 2 | 19 => 3 | n => n⟩
theorem Tryd.laysM173 : Go.Proofs.LaysM.n173 Tryd.prog Tryd.laysM173_ren := {
  mixed := by kernel_rfl
  f129 := Tryd.func75.trans (congrArg some (by kernel_rfl))
  f173 := Tryd.func38.trans (congrArg some (by kernel_rfl))
  f246 := Tryd.func57.trans (congrArg some (by kernel_rfl))
  f283 := Tryd.func66.trans (congrArg some (by kernel_rfl))
  f284 := Tryd.func67.trans (congrArg some (by kernel_rfl))
  f285 := Tryd.func68.trans (congrArg some (by kernel_rfl))
  f286 := Tryd.func69.trans (congrArg some (by kernel_rfl))
  f317 := Tryd.func74.trans (congrArg some (by kernel_rfl))
  f318 := Tryd.func76.trans (congrArg some (by kernel_rfl))
  f319 := Tryd.func77.trans (congrArg some (by kernel_rfl))
  f320 := Tryd.func78.trans (congrArg some (by kernel_rfl))
  f337 := Tryd.func81.trans (congrArg some (by kernel_rfl))
  f338 := Tryd.func82.trans (congrArg some (by kernel_rfl))
  t0 := Tryd.underlying0
  a0 := Tryd.isAgg0
  z0 := Tryd.sizeOf0
  v0 := Tryd.zeroValue0
  t2 := Tryd.underlying2
  a2 := Tryd.isAgg2
  z2 := Tryd.sizeOf2
  v2 := Tryd.zeroValue2
  t3 := Tryd.underlying3
  a3 := Tryd.isAgg3
  z3 := Tryd.sizeOf3
  v3 := Tryd.zeroValue3
  t4 := Tryd.underlying4
  a4 := Tryd.isAgg4
  z4 := Tryd.sizeOf4
  v4 := Tryd.zeroValue4
  t5 := Tryd.underlying5
  a5 := Tryd.isAgg5
  z5 := Tryd.sizeOf5
  v5 := Tryd.zeroValue5
  t9 := Tryd.underlying9
  a9 := Tryd.isAgg9
  z9 := Tryd.sizeOf9
  v9 := Tryd.zeroValue9
  t20 := Tryd.underlying20
  a20 := Tryd.isAgg20
  z20 := Tryd.sizeOf20
  v20 := Tryd.zeroValue20
  t37 := Tryd.underlying43
  a37 := Tryd.isAgg43
  z37 := Tryd.sizeOf43
  v37 := Tryd.zeroValue43
  t46 := Tryd.underlying143
  a46 := Tryd.isAgg143
  z46 := Tryd.sizeOf143
  v46 := Tryd.zeroValue143
  t51 := Tryd.underlying58
  a51 := Tryd.isAgg58
  z51 := Tryd.sizeOf58
  v51 := Tryd.zeroValue58
  t53 := Tryd.underlying129
  a53 := Tryd.isAgg129
  z53 := Tryd.sizeOf129
  v53 := Tryd.zeroValue129
  t171 := Tryd.underlying128
  a171 := Tryd.isAgg128
  z171 := Tryd.sizeOf128
  v171 := Tryd.zeroValue128
  t173 := Tryd.underlying132
  a173 := Tryd.isAgg132
  z173 := Tryd.sizeOf132
  v173 := Tryd.zeroValue132
  t212 := Tryd.underlying140
  a212 := Tryd.isAgg140
  z212 := Tryd.sizeOf140
  v212 := Tryd.zeroValue140
  t213 := Tryd.underlying141
  a213 := Tryd.isAgg141
  z213 := Tryd.sizeOf141
  t232 := Tryd.underlying148
  a232 := Tryd.isAgg148
  z232 := Tryd.sizeOf148
  v232 := Tryd.zeroValue148
  t233 := Tryd.underlying149
  a233 := Tryd.isAgg149
  z233 := Tryd.sizeOf149
  v233 := Tryd.zeroValue149
  g17 := by kernel_rfl
  g18 := by kernel_rfl
  g19 := by kernel_rfl
  i0 := by kernel_rfl
  i2 := by kernel_rfl
  i3 := by kernel_rfl
  i4 := by kernel_rfl
  i5 := by kernel_rfl
  i9 := by kernel_rfl
  i20 := by kernel_rfl
  i37 := by kernel_rfl
  i46 := by kernel_rfl
  i51 := by kernel_rfl
  i53 := by kernel_rfl
  i171 := by kernel_rfl
  i173 := by kernel_rfl
  i212 := by kernel_rfl
  i232 := by kernel_rfl
  i233 := by kernel_rfl
  m17 := by kernel_rfl
  m18 := by kernel_rfl
  m19 := by kernel_rfl }
open Go.RowKit Go.Sort Go.Lib in
theorem Tryd.strconv_FormatInt_10 (n : Int) (h0 : -9223372036854775808 ≤ n) (h1 : n ≤ 9223372036854775807) (w : World) (htab : Lib.TabIs Tryd.prog w "internal/strconv.uint64pow10" .u64 Lib.pow10Tab) :
    Calls Tryd.prog 38 #[.int .i64 n, .int .i64 10] w fun e w' => e = .returned (.string ⟨(Lib.itoa n).toArray⟩) ∧ ∃ k os, w' = grow (w.drewN k) os := Any.strconv_FormatInt_10 Tryd.laysM173 n h0 h1 w htab
def Tryd.lays219_ren : Go.Shelf.Ren := ⟨fun | 219 => 83 | 217 => 84 | 225 => 85 | 224 => 86 | 267 => 87 | 266 => 88 | 314 => 89 | n => n, fun | 9 => 9 | 3 => 3 | 4 => 4 | 5 => 5 | 46 => 143 | 146 => 151 | 51 => 58 | n => n, fun | 1 => 0 | n => n⟩
theorem Tryd.lays219 : Go.Proofs.Lays.n219 Tryd.prog Tryd.lays219_ren := {
  mixed := by kernel_rfl
  f217 := Tryd.func84.trans (congrArg some (by kernel_rfl))
  f219 := Tryd.func83.trans (congrArg some (by kernel_rfl))
  f224 := Tryd.func86.trans (congrArg some (by kernel_rfl))
  f225 := Tryd.func85.trans (congrArg some (by kernel_rfl))
  f266 := Tryd.func88.trans (congrArg some (by kernel_rfl))
  f267 := Tryd.func87.trans (congrArg some (by kernel_rfl))
  f314 := Tryd.func89.trans (congrArg some (by kernel_rfl))
  t3 := Tryd.underlying3
  a3 := Tryd.isAgg3
  z3 := Tryd.sizeOf3
  v3 := Tryd.zeroValue3
  t4 := Tryd.underlying4
  a4 := Tryd.isAgg4
  z4 := Tryd.sizeOf4
  v4 := Tryd.zeroValue4
  t5 := Tryd.underlying5
  a5 := Tryd.isAgg5
  z5 := Tryd.sizeOf5
  v5 := Tryd.zeroValue5
  t9 := Tryd.underlying9
  a9 := Tryd.isAgg9
  z9 := Tryd.sizeOf9
  v9 := Tryd.zeroValue9
  t46 := Tryd.underlying143
  a46 := Tryd.isAgg143
  z46 := Tryd.sizeOf143
  v46 := Tryd.zeroValue143
  t51 := Tryd.underlying58
  a51 := Tryd.isAgg58
  z51 := Tryd.sizeOf58
  v51 := Tryd.zeroValue58
  t146 := Tryd.underlying151
  a146 := Tryd.isAgg151
  z146 := Tryd.sizeOf151
  v146 := Tryd.zeroValue151
  g1 := by kernel_rfl }
open Go.RowKit Go.Lib in
theorem Tryd.stringslite_Index_one (s : ByteArray) (c : UInt8) (w : World) :
    Calls Tryd.prog 83 #[.string s, .string ⟨#[c]⟩] w fun e w' => e = .returned (.int .i64 (Lib.indexByte s.data.toList c)) ∧ w' = w := Any.stringslite_Index_one Tryd.lays219 s c w
end Go.Proofs

namespace Go.Proofs.YtnmcgleanpdlmaaDoor
open Go.RowKit
set_option linter.unusedVariables false
theorem index_dot (l : List UInt8) : Lib.indexByte l 46 = if dotAt l < l.length then (dotAt l : Int) else -1 := by
  induction l with
  | nil => rfl
  | cons b l ih =>
    by_cases hb : b.toNat = 46
    · have e : b = 46 := by
        apply UInt8.toNat_inj.1
        simpa using hb
      subst e
      simp [Lib.indexByte, dotAt]
    · have hne : (b == (46 : UInt8)) = false := by
        simp only [beq_eq_false_iff_ne, ne_eq]
        intro e
        subst e
        exact hb rfl
      have hd : dotAt (b :: l) = dotAt l + 1 := by
        unfold dotAt
        rw [List.takeWhile_cons, if_pos (by simpa using hb)]
        rfl
      rw [Lib.indexByte, hne, ih, hd]
      by_cases hl : dotAt l < l.length
      · have h2 : ((dotAt l : Int) == -1) = false := by
          rw [beq_eq_false_iff_ne]
          omega
        simp only [hl, if_true, h2, Bool.false_eq_true, if_false]
        rw [if_pos (by simp; omega)]
        omega
      · simp [hl]
theorem cut_any (l : List UInt8) (w : World) (hl : l.length ≤ 65536) : Calls Tryd.prog 71 #[.string (strB l), .string ⟨#[46]⟩] w fun e w' => e = .returned (.tuple #[.string (strB (l.take (dotAt l))), .string (strB (l.drop (dotAt l + 1))), .bool (decide (dotAt l < l.length))]) ∧ Dr w w' := by
  have hi := index_dot l
  have c1 := fun w => Tryd.stringslite_Index_one (strB l) 46 w
  have hd : (strB l).data.toList = l := rfl
  rw [hd, hi] at c1
  clear hi hd
  have hdl := dot_le l
  have hz : (strB l).size = l.length := strB_size l
  have inner : Calls Tryd.prog 80 #[.string (strB l), .string ⟨#[46]⟩] w fun e w' => e = .returned (.tuple #[.string (strB (l.take (dotAt l))), .string (strB (l.drop (dotAt l + 1))), .bool (decide (dotAt l < l.length))]) ∧ Dr w w' := by
    by_cases h : dotAt l < l.length
    · rw [if_pos h] at c1
      generalize dotAt l = k at *
      go_enter Tryd.func80, Tryd.ntmps80
      go_wp2_with fail
      refine (c1 _).mono ?_
      rintro _ _ ⟨rfl, rfl⟩
      clear c1
      have k0 : (0 : Int) ≤ (k : Int) := by omega
      have k1 : (k : Int) ≤ ((strB l).size : Int) := by rw [hz]; omega
      have kI : (k : Int) < (l.length : Int) := by omega
      have wk : IntKind.i64.wrap ((k : Int) + 1) = (k : Int) + 1 := by rw [IntKind.wrap_i64]; omega
      go_wp2
      have e1 : (strB l).extract 0 k = strB (l.take k) := by rw [strB_sub]; simp
      have e2 : (strB l).extract (k + 1) l.length = strB (l.drop (k + 1)) := by
        rw [strB_sub, List.take_of_length_le (by simp)]
      have e3 : decide (k < l.length) = true := decide_eq_true h
      have HE := Lib.hid (And.intro e1 (And.intro e2 e3))
      clear e1 e2 e3 h
      go_region
      all_goals
        go_wp2
        obtain ⟨e1, e2, e3⟩ := HE.out
        refine bodyPost_ret (v := .tuple #[.string ((strB l).extract 0 k), .string ((strB l).extract (k + 1) l.length), .bool true]) (by simp [results, Tryd.results80, go_sem]) rfl ⟨by rw [e1, e2, e3], (Dr.refl _).trans ⟨1, rfl⟩⟩
    · rw [if_neg h] at c1
      obtain ⟨k, hk⟩ : ∃ k, dotAt l = k := ⟨_, rfl⟩
      obtain rfl : k = l.length := by omega
      have HK := Lib.hid hk
      rw [hk]
      clear hk h hdl
      go_enter Tryd.func80, Tryd.ntmps80
      go_wp2_with fail
      refine (c1 _).mono ?_
      rintro _ _ ⟨rfl, rfl⟩
      clear c1
      go_wp2
      refine bodyPost_ret (v := .tuple #[.string (strB l), .string ⟨#[]⟩, .bool false]) (by simp [results, Tryd.results80, go_sem]) rfl ⟨?_, Dr.refl _⟩
      have e3 : decide (l.length < l.length) = false := by simp
      rw [List.take_length, List.drop_of_length_le (by omega), e3]
      rfl
  go_enter Tryd.func71, Tryd.ntmps71
  go_wp2_with fail
  refine (Calls.mono inner ?_)
  rintro _ w1 ⟨rfl, q1⟩
  go_wp2
  exact bodyPost_ret (v := .tuple #[.string (strB (l.take (dotAt l))), .string (strB (l.drop (dotAt l + 1))), .bool (decide (dotAt l < l.length))]) (by simp [results, Tryd.results71, go_sem]) rfl ⟨rfl, q1⟩
end Go.Proofs.YtnmcgleanpdlmaaDoor

namespace Go.Proofs.YtnmcgleanpdlmaaDoor
open Go.RowKit
set_option linter.unusedVariables false
theorem wellL_parts (l : List UInt8) : wellL l = match l.drop (dotAt l + 1) with
    | [] => none
    | r :: ds => if (numOk (strB ds) && wrB (strB (l.take (dotAt l))) ((r.toNat : Int) - 65) ((numV (strB ds) : Int) - 1)) = true then some (l.take (dotAt l), r.toNat - 65, numV (strB ds) - 1) else none := by
  unfold wellL
  simp only
  rw [take_dot, List.length_take, Nat.min_eq_left (dot_le l)]
  cases l.drop (dotAt l + 1) with
  | nil => rfl
  | cons r ds =>
    simp only
    have e : (nameS (strB (l.take (dotAt l))) = true ∧ 65 ≤ r.toNat ∧ r.toNat ≤ 72 ∧ numOk (strB ds) = true ∧ 1 ≤ numV (strB ds) ∧ numV (strB ds) ≤ 12) ↔ (numOk (strB ds) && wrB (strB (l.take (dotAt l))) ((r.toNat : Int) - 65) ((numV (strB ds) : Int) - 1)) = true := by
      unfold wrB
      simp only [Bool.and_eq_true, decide_eq_true_eq]
      constructor
      · rintro ⟨h1, h2, h3, h4, h5, h6⟩
        exact ⟨h4, ⟨h1, by omega, by omega⟩, by omega, by omega⟩
      · rintro ⟨h4, ⟨h1, h2, h3⟩, h5, h6⟩
        exact ⟨h1, by omega, by omega, h4, by omega, by omega⟩
    by_cases h : (nameS (strB (l.take (dotAt l))) = true ∧ 65 ≤ r.toNat ∧ r.toNat ≤ 72 ∧ numOk (strB ds) = true ∧ 1 ≤ numV (strB ds) ∧ numV (strB ds) ≤ 12)
    · rw [if_pos h, if_pos (e.1 h)]
    · rw [if_neg h, if_neg (fun h' => h (e.2 h'))]
theorem wellRes_no {l : List UInt8} {w w' : World} (h : wellL l = none) (q : B w w') : WellRes l w (.returned (.tuple #[.agg #[.string ⟨#[]⟩, .int .i64 0, .int .i64 0], .bool false])) w' := .inr ⟨h, rfl, q⟩
theorem wellRes_yes {l n : List UInt8} {r c : Nat} {ri ci : Int} {w w' : World} (h : wellL l = some (n, r, c)) (h1 : (r : Int) = ri) (h2 : (c : Int) = ci) (q : B w w') : WellRes l w (.returned (.tuple #[.agg #[.string (strB n), .int .i64 ri, .int .i64 ci], .bool true])) w' := .inl ⟨n, r, c, h, by rw [h1, h2], q⟩
set_option maxHeartbeats 2000000 in
theorem wparse_any (l : List UInt8) (w : World) (hl : l.length ≤ 65536) : Calls Tryd.prog 61 #[.string (strB l)] w (WellRes l w) := by
  have c1 := fun w => cut_any l w hl
  have hc := wellL_parts l
  have hdl : (l.drop (dotAt l + 1)).length ≤ 65536 := by rw [List.length_drop]; omega
  obtain ⟨CW, hCW⟩ : ∃ x, wellL l = x := ⟨_, rfl⟩
  rw [hCW] at hc
  replace hCW := Lib.hid hCW
  generalize l.take (dotAt l) = N at *
  generalize l.drop (dotAt l + 1) = PL at *
  generalize decide (dotAt l < l.length) = FB at *
  cases PL with
  | nil =>
    simp only at hc
    subst hc
    have he : (strB ([] : List UInt8)) = ⟨#[]⟩ := rfl
    rw [he] at c1
    go_enter Tryd.func61, Tryd.ntmps61
    go_wp2_with fail
    refine (c1 _).mono ?_
    rintro _ w1 ⟨rfl, ⟨m, rfl⟩⟩
    clear c1
    go_wp2
    have oR := obj_three (w := (w.alloc (.cells #[.string ⟨#[]⟩, .int .i64 0, .int .i64 0] 36)).drewN m) (obj_new w _) (.string ⟨#[]⟩) (.int .i64 0) (.int .i64 0)
    have hQ := b_three (((B.refl w).alloc #[.string ⟨#[]⟩, .int .i64 0, .int .i64 0] 36).drewN m) (Nat.le_refl _) (.string ⟨#[]⟩) (.int .i64 0) (.int .i64 0)
    have cR0 := obj_cell oR 0
    have cR1 := obj_cell oR 1
    have cR2 := obj_cell oR 2
    exact bodyPost_ret (v := .tuple #[.agg #[.string ⟨#[]⟩, .int .i64 0, .int .i64 0], .bool false]) (by simp [results, Tryd.results61, go_sem, cR0, cR1, cR2]) rfl (wellRes_no hCW.out hQ)
  | cons r ds =>
    simp only at hc
    have hx : (strB (r :: ds)).toList.isEmpty = false := by rw [toList_empty]; exact decide_eq_false (by rw [strB_size]; simp)
    have hz : (strB (r :: ds)).size = ds.length + 1 := by rw [strB_size]; rfl
    have hsl : (strB (r :: ds)).extract 1 (ds.length + 1) = strB ds := by
      rw [strB_sub, List.take_of_length_le (by simp)]
      rfl
    have hby : ∀ h : 0 < (strB (r :: ds)).size, (strB (r :: ds))[0] = r := fun _ => rfl
    obtain ⟨OK, hOK⟩ : ∃ b, numOk (strB ds) = b := ⟨_, rfl⟩
    obtain ⟨V, hV⟩ : ∃ n, numV (strB ds) = n := ⟨_, rfl⟩
    have hVm : V ≤ 1000000000000 := by
      rw [← hV]
      cases ho : numOk (strB ds)
      · rw [(num_no (fun h => by have := numOk_iff.2 h; rw [ho] at this; cases this)).2]; omega
      · rw [(num_yes (numOk_iff.1 ho)).2]; exact (numOk_iff.1 ho).2.2.2
    have cn : ∀ w, Calls Tryd.prog 72 #[.string (strB ds)] w fun e w' => e = .returned (.tuple #[.int .i64 (V : Int), .bool OK]) ∧ B w w' := fun w => by rw [← hOK, ← hV]; exact number_any _ w
    have cw := fun w => written_any (strB N) ((r.toNat : Int) - 65) ((V : Int) - 1) w
    rw [hOK, hV] at hc
    clear hOK hV
    have hr256 : r.toNat < 256 := r.toNat_lt
    obtain ⟨WB, hWB⟩ : ∃ b, wrB (strB N) ((r.toNat : Int) - 65) ((V : Int) - 1) = b := ⟨_, rfl⟩
    rw [hWB] at cw hc
    have u1 : IntKind.i64.wrap (r.toNat : Int) = (r.toNat : Int) := by rw [IntKind.wrap_i64]; omega
    have u2 : IntKind.i64.wrap ((r.toNat : Int) - 65) = (r.toNat : Int) - 65 := by rw [IntKind.wrap_i64]; omega
    have u3 : IntKind.i64.wrap ((V : Int) - 1) = (V : Int) - 1 := by rw [IntKind.wrap_i64]; omega
    have v1 : wrap64 (r.toNat : Int) = (r.toNat : Int) := by unfold wrap64; omega
    have v2 : wrap64 ((r.toNat : Int) - 65) = (r.toNat : Int) - 65 := by unfold wrap64; omega
    have HW := Lib.hid hWB
    clear hWB
    go_enter Tryd.func61, Tryd.ntmps61
    go_wp2_with fail
    refine (c1 _).mono ?_
    rintro _ w1 ⟨rfl, ⟨m, rfl⟩⟩
    clear c1
    go_wp2_with fail
    refine (cn _).mono ?_
    rintro _ w2 ⟨rfl, q2⟩
    clear cn
    have oR := q2.obj (show ((w.alloc (.cells #[.string ⟨#[]⟩, .int .i64 0, .int .i64 0] 36)).drewN m).heap[w.heap.size]? = _ from obj_new w _)
    have hB : B w w2 := (((B.refl w).alloc _ _).drewN m).trans q2
    obtain ⟨H, hH⟩ : ∃ H, w.heap.size = H := ⟨_, rfl⟩
    have hHu : w.heap.size ≤ H := by rw [hH]; exact Nat.le_refl _
    rw [hH] at oR ⊢
    clear hH q2
    cases OK
    · obtain rfl : CW = none := by simpa using hc
      have hb0 : w2.cell? ⟨H, 0, none⟩ = some (.string ⟨#[]⟩) := obj_cell oR 0
      have hb1 : w2.cell? ⟨H, 1, none⟩ = some (.int .i64 0) := obj_cell oR 1
      have hb2 : w2.cell? ⟨H, 2, none⟩ = some (.int .i64 0) := obj_cell oR 2
      have hf0 := obj_free oR 0
      have hf1 := obj_free oR 1
      have hf2 := obj_free oR 2
      go_wp2
      have oR := obj_three oR (.string ⟨#[]⟩) (.int .i64 0) (.int .i64 0)
      have hQ := b_three hB hHu (.string ⟨#[]⟩) (.int .i64 0) (.int .i64 0)
      have cR0 := obj_cell oR 0
      have cR1 := obj_cell oR 1
      have cR2 := obj_cell oR 2
      exact bodyPost_ret (v := .tuple #[.agg #[.string ⟨#[]⟩, .int .i64 0, .int .i64 0], .bool false]) (by simp [results, Tryd.results61, go_sem, cR0, cR1, cR2]) rfl (wellRes_no hCW.out hQ)
    · go_wp2_with fail
      refine (cw _).mono ?_
      rintro _ w3 ⟨rfl, q3⟩
      clear cw
      replace oR := q3.obj oR
      replace hB := hB.trans q3
      have hb0 : w3.cell? ⟨H, 0, none⟩ = some (.string ⟨#[]⟩) := obj_cell oR 0
      have hb1 : w3.cell? ⟨H, 1, none⟩ = some (.int .i64 0) := obj_cell oR 1
      have hb2 : w3.cell? ⟨H, 2, none⟩ = some (.int .i64 0) := obj_cell oR 2
      have hf0 := obj_free oR 0
      have hf1 := obj_free oR 1
      have hf2 := obj_free oR 2
      clear q3
      cases WB
      · obtain rfl : CW = none := by simpa using hc
        go_wp2
        have oR := obj_three oR (.string ⟨#[]⟩) (.int .i64 0) (.int .i64 0)
        have hQ := b_three hB hHu (.string ⟨#[]⟩) (.int .i64 0) (.int .i64 0)
        have cR0 := obj_cell oR 0
        have cR1 := obj_cell oR 1
        have cR2 := obj_cell oR 2
        exact bodyPost_ret (v := .tuple #[.agg #[.string ⟨#[]⟩, .int .i64 0, .int .i64 0], .bool false]) (by simp [results, Tryd.results61, go_sem, cR0, cR1, cR2]) rfl (wellRes_no hCW.out hQ)
      · obtain rfl : CW = some (N, r.toNat - 65, V - 1) := by simpa using hc
        have hwi := wrB_iff.1 HW.out
        have e1 : ((r.toNat - 65 : Nat) : Int) = (r.toNat : Int) - 65 := by omega
        have e2 : ((V - 1 : Nat) : Int) = (V : Int) - 1 := by omega
        have HE := Lib.hid (And.intro e1 e2)
        clear hc hwi e1 e2
        go_wp2
        have oR := obj_three oR (.string (strB N)) (.int .i64 ((r.toNat : Int) - 65)) (.int .i64 ((V : Int) - 1))
        have hQ := b_three hB hHu (.string (strB N)) (.int .i64 ((r.toNat : Int) - 65)) (.int .i64 ((V : Int) - 1))
        have cR0 := obj_cell oR 0
        have cR1 := obj_cell oR 1
        have cR2 := obj_cell oR 2
        exact bodyPost_ret (v := .tuple #[.agg #[.string (strB N), .int .i64 ((r.toNat : Int) - 65), .int .i64 ((V : Int) - 1)], .bool true]) (by simp [results, Tryd.results61, go_sem, cR0, cR1, cR2]) rfl (wellRes_yes hCW.out HE.out.1 HE.out.2 hQ)
end Go.Proofs.YtnmcgleanpdlmaaDoor
