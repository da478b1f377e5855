/-
  Contract of the code's Lines.
-/
import Derived.Test.YtknpabijhmcjhaaLexl
namespace Go.Proofs.Ytknpabijhmcjhaa
open Go.RowKit

theorem lineInfo : (Try.prog.info? 42).map (fun i => (i.zero, i.size, i.bytes)) = some (some (.slice none 0 0), 1, 24) := by kernel_rfl
theorem scan_next {bs : List UInt8} {q : Nat} {out : List (List Wd)} {ws : List Wd} (h : bs.length ≤ q ∨ ∃ c, bs[q]? = some c ∧ c.toNat = 10) : scan (bs.drop q) q out ws [] false = scan (bs.drop (q + 1)) (q + 1) (flushL out ws) [] [] false := by
  rcases h with h | ⟨c, h, hc⟩
  · rw [scan_end h, scan_end (by omega), flushW_none, flushW_none, flushL_none]
  · rw [scan_feed h hc, flushW_none]
/-- Lines are told, in new memory. -/
def LinesRes (bs : List UInt8) (w : World) (e : Ending) (w' : World) : Prop :=
  ∃ v, e = .returned (.tuple #[v, .int .i64 (((linesB bs).2.1 : Nat) : Int), .int .i64 (((linesB bs).2.2 : Nat) : Int)]) ∧ IsLines w' v (linesB bs).1 ∧ B w w'
set_option maxHeartbeats 2000000 in
theorem lines_any (ao : Option Addr) (b o cap : Nat) (bs : List UInt8) (w : World) (h : IsB w ao cap b o bs) :
    Calls Try.prog 10 #[.slice ao bs.length cap] w (LinesRes bs w) := by
  have hle := h.le
  have hcap := h.max
  unfold maxLen at hcap
  by_cases hbig : 65536 < bs.length
  · have hlB : decide ((65536 : Int) < (bs.length : Int)) = true := decide_eq_true (by omega)
    have e : linesB bs = ([], 65536, 27) := if_pos hbig
    unfold LinesRes
    rw [e]
    clear e h hle hcap
    go_enter Try.func10, Try.ntmps10
    go_wp2
    go_ret3
    exact ⟨_, rfl, .inl ⟨rfl, rfl⟩, B.refl _⟩
  have hlB : decide ((65536 : Int) < (bs.length : Int)) = false := decide_eq_false (by omega)
  have e : linesB bs = scan (bs.drop 0) 0 [] [] [] false := if_neg hbig
  obtain ⟨R, hR⟩ : ∃ R, linesB bs = R := ⟨_, rfl⟩
  have hn : bs.length ≤ 65536 := by omega
  unfold LinesRes
  rw [hR]
  rw [hR] at e
  clear hR hbig
  obtain ⟨i0, hi0, hz0, hz1, hz2⟩ := info_of lineInfo
  go_enter Try.func10, Try.ntmps10
  go_wp2
  clear hlB
  go_loopw [5, 6] (fun lv av wr => ∃ (p : Nat) (ao' : Option Addr) (c : Nat) (LL : List (List Wd)) (vs : List Value), p ≤ bs.length + 1 ∧ av = .int .i64 p ∧ lv = .slice ao' LL.length c ∧ LL.length ≤ p ∧ LinesO wr w.heap.size 42 (.slice ao' LL.length c) LL vs ∧
      R = scan (bs.drop p) p LL [] [] false ∧ B w wr) (fun _ av _ => bs.length + 2 - (intOf av).toNat)
  case atStart => exact ⟨0, none, 0, [], [], by omega, rfl, rfl, by simp, LinesO.nil _ _ _, e, B.refl _⟩
  case round =>
    obtain ⟨p, ao', cc, LL, vs, hp, rfl, rfl, hLL, hO, hscan, hB⟩ := hrel
    clear e
    by_cases hl : p < bs.length
    · have hlB : decide ((p : Int) < (bs.length : Int)) = true := decide_eq_true (by omega)
      have hlI : (p : Int) < (bs.length : Int) := by omega
      have cl := line_any ao b o cap p bs wr (h.keep hB) hn (by omega)
      go_wp2_with fail
      refine cl.mono ?_
      clear cl
      rintro e w1 (⟨q, v, ws, rfl, k1, k2, k3, k4, k5, k6, k7⟩ | ⟨q, rfl, k3, k7⟩)
      · obtain ⟨av, cv, rfl⟩ := k5.form
        have wk : IntKind.i64.wrap ((q : Int) + 1) = (q : Int) + 1 := by rw [IntKind.wrap_i64]; omega
        have hR' : R = scan (bs.drop (q + 1)) (q + 1) (flushL LL ws) [] [] false := by rw [hscan, k3 LL, scan_next k4]
        by_cases hw : ws = []
        · subst hw
          rw [flushL_none] at hR'
          have HS := Lib.hid (And.intro hR' (And.intro (hO.keep k7) (hB.trans k7)))
          have HM := Lib.hid (And.intro k1 (And.intro k2 (And.intro hLL hl)))
          clear hR' hscan k1 k2 k3 k4 k5 k6 k7 hO hB hl hlB hlI hLL hp
          go_wp2
          go_roundw
          case rel => exact ⟨q + 1, ao', cc, LL, vs, by have := HM.out; omega, by go_num, rfl, by have := HM.out; omega, HS.out.2.1, HS.out.1, HS.out.2.2⟩
          case measure => have := HM.out; simp [intOf]; omega
        · have hlen : 0 < ws.length := List.length_pos_iff.2 hw
          have hwB : decide ((0 : Int) < (ws.length : Int)) = true := decide_eq_true (by omega)
          rw [flushL_some hw] at hR'
          obtain ⟨g, c2, hv, _, _, hg, _⟩ := k5.full hlen
          obtain ⟨rfl, _, rfl⟩ : av = some ⟨g, 0, none⟩ ∧ True ∧ cv = c2 := by simpa using hv
          have hO2 := (hO.keep k7).keep ((B.refl w1).alloc #[.slice (some ⟨g, 0, none⟩) ws.length cv] 42)
          have own2 := hO2.own
          have hIW : IsWords (w1.alloc (.cells #[.slice (some ⟨g, 0, none⟩) ws.length cv] 42)) (.slice (some ⟨g, 0, none⟩) ws.length cv) ws := k5.keep ((B.refl w1).alloc _ _)
          have B2 := (hB.trans k7).alloc #[.slice (some ⟨g, 0, none⟩) ws.length cv] 42
          have hne : (Value.slice ao' LL.length cc).ownBlock ≠ some g := fun e => by have := (hO.own.lt g e).2; have := (k6 g rfl).1; omega
          have hgb : w.heap.size ≤ g := by have := (k6 g rfl).1; have := hB.below.size; omega
          have h16 : LL.length ≤ 65536 := by omega
          have hb2 := B2.below.size
          have HM := Lib.hid (And.intro k1 (And.intro k2 (And.intro hLL (And.intro hl hg))))
          have HS := Lib.hid (And.intro hR' (And.intro hO2 (And.intro hIW (And.intro hne (And.intro hgb B2)))))
          clear hR' hscan k1 k2 k3 k4 k5 k6 k7 hO hB hl hlB hlI hLL hp hO2 hIW hne hgb B2 hv hw hle hcap
          go_wp2_with (at_builtin; refine wpList_append_lies _ rfl _ _ 25 rfl w.heap.size 42 i0 _ 1 24 Try.underlying25 hi0 hz0 hz1 hz2 rfl (by omega) (.slice ao' LL.length cc) LL.length vs rfl own2 ⟨w1.heap.size, 0, none⟩ 1 1 [.slice (some ⟨g, 0, none⟩) ws.length cv] rfl rfl (newest rfl) (fun u hu => by simp at hu; rw [hu]; rfl) (by omega) (by unfold maxLen; omega) (by omega) hb2 _ rfl ?_; intro gb cp W4 hown4 hgrow hat4 hlt4; have hO4 := lines_more HS.out.2.1 hown4 hgrow hat4 HS.out.2.2.1 rfl HS.out.2.2.2.1 (by simp; have := HM.out; omega) HS.out.2.2.2.2.1; have B4 := HS.out.2.2.2.2.2.grownBy hgrow (fun x hx => (own2.lt x hx).1); clear hgrow hat4 hlt4 own2 hown4 hlen hwB; replace hO4 := Lib.hid hO4; go_wp2_with fail)
          go_roundw
          case rel => exact ⟨q + 1, some ⟨gb, 0, none⟩, cp, LL ++ [ws], vs ++ [.slice (some ⟨g, 0, none⟩) ws.length cv], by have := HM.out; omega, by go_num, by simp, by have := HM.out; simp; omega, hO4.out, HS.out.1, B4⟩
          case measure => have := HM.out; simp [intOf]; omega
      · have HR : R = ([], q, 24) := by rw [hscan, k3]
        have HB := Lib.hid (hB.trans k7)
        subst HR
        clear hscan k3 k7 hB hO
        go_wp2
        go_ret3
        exact ⟨_, rfl, .inl ⟨rfl, rfl⟩, HB.out⟩
    · have hlB : decide ((p : Int) < (bs.length : Int)) = false := decide_eq_false (by omega)
      have HR : R = (LL, 0, 0) := by rw [hscan, scan_end (by omega), flushW_none, flushL_none]
      have HB := Lib.hid (And.intro hO.is hB)
      subst HR
      clear hscan hB hO
      go_wp2
      go_ret3
      exact ⟨_, rfl, HB.out.1, HB.out.2⟩
end Go.Proofs.Ytknpabijhmcjhaa
