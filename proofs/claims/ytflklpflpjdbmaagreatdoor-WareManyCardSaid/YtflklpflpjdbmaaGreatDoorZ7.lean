/-
  Contract of the document's reading of a well's text; The code's reader of a line's words: next, ask; The code's wellOf: a well's text taken apart; The code's reader of a line's words: numbers; The code's reader of a line's words: a name that is to stand.
-/
import Derived.BigRegion
import Derived.Deep.QuietTactic
import Derived.BigQuiet
import Derived.Laws.Strings2
import Derived.Laws.Slices
import Derived.KernelRfl
import Derived.Test.YtflklpflpjdbmaaGreatDoorZ1
import Derived.Test.YtflklpflpjdbmaaGreatDoorZ2
import Derived.Test.YtflklpflpjdbmaaGreatDoorZ3
import Derived.Test.YtflklpflpjdbmaaGreatDoorZ4
import Derived.Test.YtflklpflpjdbmaaGreatDoorZ5
import Derived.Test.YtflklpflpjdbmaaGreatDoorZ6
namespace Go.Proofs.YtflklpflpjdbmaaGreatDoor
open Go.RowKit
/-- How far a name goes in a text. -/
def dotAt (l : List UInt8) : Nat := (l.takeWhile fun c => decide (c.toNat ≠ 46)).length
theorem dot_le (l : List UInt8) : dotAt l ≤ l.length := by
  unfold dotAt
  exact (List.takeWhile_sublist _).length_le
theorem dot_is (l : List UInt8) : ∀ k, (∀ j c, j < k → l[j]? = some c → c.toNat ≠ 46) → k ≤ l.length → (l.length ≤ k ∨ ∃ c, l[k]? = some c ∧ c.toNat = 46) → dotAt l = k := by
  induction l with
  | nil => intro k _ hk _; simp at hk; subst hk; rfl
  | cons x l ih =>
    intro k h hk he
    unfold dotAt
    match k with
    | 0 =>
      rcases he with he | ⟨c, hc, h46⟩
      · simp at he
      · simp at hc; subst hc
        rw [List.takeWhile_cons, if_neg (by simp [h46])]
        rfl
    | k + 1 =>
      have hx := h 0 x (by omega) rfl
      rw [List.takeWhile_cons, if_pos (by simp [hx])]
      have := ih k (fun j c hj hc => h (j + 1) c (by omega) (by simpa using hc)) (by simpa using hk) (by
        rcases he with he | ⟨c, hc, h46⟩
        · exact .inl (by simpa using he)
        · exact .inr ⟨c, by simpa using hc, h46⟩)
      unfold dotAt at this
      rw [List.length_cons, this]
theorem take_dot (l : List UInt8) : l.takeWhile (fun c => decide (c.toNat ≠ 46)) = l.take (dotAt l) := by
  unfold dotAt
  exact (List.takeWhile_eq_take_findIdx_not ..) |>.trans (by
    congr 1
    rw [List.takeWhile_eq_take_findIdx_not, List.length_take]
    have := List.findIdx_le_length (p := fun c : UInt8 => !decide (c.toNat ≠ 46)) (xs := l)
    omega)
theorem byteB (l : List UInt8) (i : Nat) (b : UInt8) (h : l[i]? = some b) : byteAt (strB l) i = b.toNat := by
  unfold byteAt strB
  rw [List.getD_eq_getElem?_getD]
  show (l[i]?.getD 0).toNat = _
  rw [h]
  rfl
theorem strB_sub (l : List UInt8) (a b : Nat) : (strB l).extract a b = strB ((l.drop a).take (b - a)) := by
  apply ByteArray.ext
  apply Array.ext'
  rw [Go.Lib.extract_data]
  rfl
theorem well_short {l : List UInt8} (h : l.length ≤ dotAt l + 2) : wellL l = none := by
  unfold wellL
  simp only
  rw [show (l.takeWhile fun c => decide (c.toNat ≠ 46)).length = dotAt l from rfl]
  cases e : l.drop (dotAt l + 1) with
  | nil => rfl
  | cons r ds =>
    have hl : (l.drop (dotAt l + 1)).length ≤ 1 := by rw [List.length_drop]; omega
    rw [e, List.length_cons] at hl
    have : ds = [] := List.length_eq_zero_iff.1 (by omega)
    subst this
    simp only
    rw [if_neg]
    rintro ⟨_, _, _, h4, _⟩
    exact absurd h4 (by decide)
theorem well_long {l : List UInt8} {k : Nat} {r : UInt8} (hk : dotAt l = k) (hr : l[k + 1]? = some r) : wellL l = if nameS (strB (l.take k)) = true ∧ 65 ≤ r.toNat ∧ r.toNat ≤ 72 ∧ numOk (strB (l.drop (k + 2))) = true ∧ 1 ≤ numV (strB (l.drop (k + 2))) ∧ numV (strB (l.drop (k + 2))) ≤ 12 then some (l.take k, r.toNat - 65, numV (strB (l.drop (k + 2))) - 1) else none := by
  unfold wellL
  simp only
  rw [take_dot, List.length_take, Nat.min_eq_left (dot_le l), hk]
  have e : l.drop (k + 1) = r :: l.drop (k + 2) := by
    obtain ⟨h, rfl⟩ := List.getElem?_eq_some_iff.1 hr
    rw [List.drop_eq_getElem_cons h]
  rw [e]
/-- What a well's text tells. -/
def WellRes (l : List UInt8) (w : World) (e : Ending) (w' : World) : Prop :=
  (∃ n r c, wellL l = some (n, r, c) ∧ e = .returned (.tuple #[.agg #[.string (strB n), .int .i64 ((r : Nat) : Int), .int .i64 ((c : Nat) : Int)], .bool true]) ∧ B w w') ∨
  (wellL l = none ∧ e = .returned (.tuple #[.agg #[.string ⟨#[]⟩, .int .i64 0, .int .i64 0], .bool false]) ∧ B w w')
set_option maxHeartbeats 4000000 in
set_option maxRecDepth 100000 in
theorem r8well_any (l : List UInt8) (w : World) (hlen : l.length ≤ 65536) : Calls Tryz.prog 86 #[.string (strB l)] w (WellRes l w) := by
  have hsz := strB_size l
  have hsub : ∀ a b, (strB l).extract a b = strB ((l.drop a).take (b - a)) := strB_sub l
  have hgk := Lib.hid (fun k h => byteAt_get (strB l) k h)
  obtain ⟨S, hS⟩ : ∃ S, strB l = S := ⟨_, rfl⟩
  have hbyte : ∀ i b, l[i]? = some b → byteAt S i = b.toNat := fun i b h => by rw [← hS]; exact byteB l i b h
  rw [hS] at hsz hsub hgk ⊢
  clear hS
  have BB := Lib.hid ((B.refl w).alloc #[.string ⟨#[]⟩, .int .i64 0, .int .i64 0] 39)
  go_enter Tryz.func86, Tryz.ntmps86
  go_wp2
  go_loopw [4] (fun iv wr => ∃ k : Nat, k ≤ l.length ∧ iv = .int .i64 k ∧ (∀ j c, j < k → l[j]? = some c → c.toNat ≠ 46) ∧ w.alloc (.cells #[.string ⟨#[]⟩, .int .i64 0, .int .i64 0] 39) = wr) (fun iv _ => l.length + 1 - (intOf iv).toNat)
  case atStart => exact ⟨0, Nat.zero_le _, rfl, fun j c hj => by omega, rfl⟩
  case round =>
    obtain ⟨k, hk, rfl, hall, rfl⟩ := hrel
    have exitW : (l.length ≤ k ∨ ∃ c, l[k]? = some c ∧ c.toNat = 46) → dotAt l = k := fun h => dot_is l k hall hk h
    by_cases hkl : k < l.length
    · obtain ⟨c, hc⟩ : ∃ c, l[k]? = some c := ⟨_, List.getElem?_eq_getElem hkl⟩
      have hg : ∀ h : k < S.size, (S[k]'h).toNat = c.toNat := fun h => (byteAt_get S k h).trans (hbyte k c hc)
      have hlB : decide ((k : Int) < (l.length : Int)) = true := decide_eq_true (by omega)
      have hlI : (k : Int) < (l.length : Int) := by omega
      have hk0 : (0 : Int) ≤ (k : Int) := by omega
      have wk1 : IntKind.i64.wrap ((k : Int) + 1) = (k : Int) + 1 := by rw [IntKind.wrap_i64]; omega
      by_cases h46 : c.toNat = 46
      · have hdot := exitW (.inr ⟨c, hc, h46⟩)
        have hb : ((c.toNat : Int) != 46) = false := by simp; omega
        obtain ⟨m, hm⟩ : ∃ m, c.toNat = m := ⟨_, rfl⟩
        rw [hm] at hg hb
        clear exitW hall hc h46 hm
        have hlB2 := hlB
        by_cases h2 : l.length ≤ k + 2
        · have HE := Lib.hid (well_short (l := l) (by omega))
          have w2 : IntKind.i64.wrap ((k : Int) + 2) = (k : Int) + 2 := by rw [IntKind.wrap_i64]; omega
          have w2B : decide ((l.length : Int) ≤ (k : Int) + 2) = true := decide_eq_true (by omega)
          clear hbyte hsub hgk hdot hk h2 hlB2
          go_wp2
          exact bodyPost_ret (v := .tuple #[.agg #[.string ⟨#[]⟩, .int .i64 0, .int .i64 0], .bool false]) (by simp [results, Tryz.results86, go_sem]) rfl (.inr ⟨HE.out, rfl, BB.out⟩)
        obtain ⟨r, hr⟩ : ∃ r, l[k + 1]? = some r := ⟨_, List.getElem?_eq_getElem (by omega)⟩
        have hW := well_long hdot hr
        obtain ⟨k1, hk1⟩ : ∃ k1, k1 = k + 1 := ⟨_, rfl⟩
        obtain ⟨k2, hk2⟩ : ∃ k2, k2 = k + 2 := ⟨_, rfl⟩
        have w1 : IntKind.i64.wrap ((k : Int) + 1) = (k1 : Int) := by rw [IntKind.wrap_i64]; omega
        have w2 : IntKind.i64.wrap ((k : Int) + 2) = (k2 : Int) := by rw [IntKind.wrap_i64]; omega
        have w2B : decide ((l.length : Int) ≤ (k2 : Int)) = false := decide_eq_false (by omega)
        have w2n : decide (l.length ≤ k2) = false := decide_eq_false (by omega)
        have hg1 : ∀ h : k1 < S.size, (S[k1]'h).toNat = r.toNat := fun h => (byteAt_get S k1 h).trans (hbyte k1 r (by rw [hk1]; exact hr))
        have hi1 : (k1 : Int) < (l.length : Int) := by omega
        have hn1 : k1 < l.length := by omega
        have hi10 : (0 : Int) ≤ (k1 : Int) := by omega
        obtain ⟨NM, hNM⟩ : ∃ NM, strB (l.take k) = NM := ⟨_, rfl⟩
        obtain ⟨DS, hDS⟩ : ∃ DS, strB (l.drop (k + 2)) = DS := ⟨_, rfl⟩
        have HNM := Lib.hid hNM
        rw [hNM, hDS] at hW
        have sN : ∀ w, (Instr.slice 9 (.string S) none (some (.int .i64 (k : Int))) none).run Tryz.prog w = .ok (.string NM) w := fun w => by
          have := run_slice_string_h (P := Tryz.prog) w 9 S Tryz.underlying9 .i64 (k : Int) (by omega) (by rw [hsz]; omega)
          rw [Int.toNat_natCast, hsub, List.drop_zero, Nat.sub_zero, hNM] at this
          exact this
        have sD : ∀ w, (Instr.slice 9 (.string S) (some (.int .i64 (k2 : Int))) none none).run Tryz.prog w = .ok (.string DS) w := fun w => by
          have := run_slice_string_l (P := Tryz.prog) w 9 S Tryz.underlying9 .i64 (k2 : Int) (by omega) (by rw [hsz]; omega)
          rw [Int.toNat_natCast, hsub, hsz, List.take_of_length_le (by rw [List.length_drop]; omega), show l.drop k2 = l.drop (k + 2) by rw [hk2], hDS] at this
          exact this
        have cn := fun w => r8name_any NM w
        have cd := fun w => r8number_any DS w
        obtain ⟨R, hR⟩ : ∃ R, r.toNat = R := ⟨_, rfl⟩
        rw [hR] at hg1 hW
        clear hbyte hsub hgk hdot h2 hr hk1 hk2 hNM hDS hR hlB2 wk1
        cases hnm : nameS NM
        · have HE := Lib.hid (show wellL l = none from by rw [hW, if_neg (by rw [hnm]; simp)])
          rw [hnm] at cn
          clear hW hnm
          go_wp2_with fail
          refine (cn _).mono ?_
          rintro e w1 ⟨rfl, rfl⟩
          clear cn cd
          go_wp2
          exact bodyPost_ret (v := .tuple #[.agg #[.string ⟨#[]⟩, .int .i64 0, .int .i64 0], .bool false]) (by simp [results, Tryz.results86, go_sem]) rfl (.inr ⟨HE.out, rfl, BB.out⟩)
        rw [hnm] at cn
        by_cases r65 : R < 65
        · have HE := Lib.hid (show wellL l = none from by rw [hW, if_neg (by omega)])
          have r65B : decide ((R : Int) < 65) = true := decide_eq_true (by omega)
          clear hW hnm r65
          go_wp2_with fail
          refine (cn _).mono ?_
          rintro e w1 ⟨rfl, rfl⟩
          clear cn cd
          go_wp2
          exact bodyPost_ret (v := .tuple #[.agg #[.string ⟨#[]⟩, .int .i64 0, .int .i64 0], .bool false]) (by simp [results, Tryz.results86, go_sem]) rfl (.inr ⟨HE.out, rfl, BB.out⟩)
        have r65B : decide ((R : Int) < 65) = false := decide_eq_false (by omega)
        by_cases r72 : 72 < R
        · have HE := Lib.hid (show wellL l = none from by rw [hW, if_neg (by omega)])
          have r72B : decide ((72 : Int) < (R : Int)) = true := decide_eq_true (by omega)
          clear hW hnm r65 r72
          go_wp2_with fail
          refine (cn _).mono ?_
          rintro e w1 ⟨rfl, rfl⟩
          clear cn cd
          go_wp2
          exact bodyPost_ret (v := .tuple #[.agg #[.string ⟨#[]⟩, .int .i64 0, .int .i64 0], .bool false]) (by simp [results, Tryz.results86, go_sem]) rfl (.inr ⟨HE.out, rfl, BB.out⟩)
        have r72B : decide ((72 : Int) < (R : Int)) = false := decide_eq_false (by omega)
        cases hok : numOk DS
        · have HE := Lib.hid (show wellL l = none from by rw [hW, if_neg (by rw [hok]; simp)])
          rw [hok] at cd
          clear hW hnm r65 r72 hok
          go_wp2_with fail
          refine (cn _).mono ?_
          rintro e w1 ⟨rfl, rfl⟩
          go_wp2_with fail
          refine (cd _).mono ?_
          rintro e w1 ⟨rfl, rfl⟩
          clear cn cd
          go_wp2
          exact bodyPost_ret (v := .tuple #[.agg #[.string ⟨#[]⟩, .int .i64 0, .int .i64 0], .bool false]) (by simp [results, Tryz.results86, go_sem]) rfl (.inr ⟨HE.out, rfl, BB.out⟩)
        rw [hok] at cd
        obtain ⟨NV, hNV⟩ : ∃ NV, numV DS = NV := ⟨_, rfl⟩
        rw [hNV] at cd hW
        by_cases v1 : NV < 1
        · have HE := Lib.hid (show wellL l = none from by rw [hW, if_neg (by omega)])
          have v1B : decide ((NV : Int) < 1) = true := decide_eq_true (by omega)
          clear hW hnm r65 r72 hok v1 hNV
          go_wp2_with fail
          refine (cn _).mono ?_
          rintro e w1 ⟨rfl, rfl⟩
          go_wp2_with fail
          refine (cd _).mono ?_
          rintro e w1 ⟨rfl, rfl⟩
          clear cn cd
          go_wp2
          exact bodyPost_ret (v := .tuple #[.agg #[.string ⟨#[]⟩, .int .i64 0, .int .i64 0], .bool false]) (by simp [results, Tryz.results86, go_sem]) rfl (.inr ⟨HE.out, rfl, BB.out⟩)
        have v1B : decide ((NV : Int) < 1) = false := decide_eq_false (by omega)
        by_cases v12 : 12 < NV
        · have HE := Lib.hid (show wellL l = none from by rw [hW, if_neg (by omega)])
          have v12B : decide ((12 : Int) < (NV : Int)) = true := decide_eq_true (by omega)
          clear hW hnm r65 r72 hok v1 v12 hNV
          go_wp2_with fail
          refine (cn _).mono ?_
          rintro e w1 ⟨rfl, rfl⟩
          go_wp2_with fail
          refine (cd _).mono ?_
          rintro e w1 ⟨rfl, rfl⟩
          clear cn cd
          go_wp2
          exact bodyPost_ret (v := .tuple #[.agg #[.string ⟨#[]⟩, .int .i64 0, .int .i64 0], .bool false]) (by simp [results, Tryz.results86, go_sem]) rfl (.inr ⟨HE.out, rfl, BB.out⟩)
        have v12B : decide ((12 : Int) < (NV : Int)) = false := decide_eq_false (by omega)
        have HE := Lib.hid (show wellL l = some (l.take k, R - 65, NV - 1) from by rw [hW, if_pos ⟨hnm, by omega, by omega, hok, by omega, by omega⟩])
        obtain ⟨RR, hRR⟩ : ∃ RR, R - 65 = RR := ⟨_, rfl⟩
        obtain ⟨CC, hCC⟩ : ∃ CC, NV - 1 = CC := ⟨_, rfl⟩
        rw [hRR, hCC] at HE
        have p1 : IntKind.u8.wrap ((R : Int) - 65) = (RR : Int) := by simp [IntKind.wrap, IntKind.signed, IntKind.bits]; omega
        have p2 : IntKind.i64.wrap (RR : Int) = (RR : Int) := by rw [IntKind.wrap_i64]; omega
        have p3 : IntKind.i64.wrap ((NV : Int) - 1) = (CC : Int) := by rw [IntKind.wrap_i64]; omega
        have hNMe : strB (l.take k) = NM := HNM.out
        have B1 := Lib.hid ((B.refl w).alloc #[.string NM, .int .i64 (RR : Int), .int .i64 (CC : Int)] 39)
        clear hW hnm r65 r72 hok v1 v12 hRR hCC hNV
        go_wp2_with fail
        refine (cn _).mono ?_
        rintro e w1 ⟨rfl, rfl⟩
        go_wp2_with fail
        refine (cd _).mono ?_
        rintro e w1 ⟨rfl, rfl⟩
        clear cn cd
        go_wp2_with fail
        go_region
        go_wp2
        exact bodyPost_ret (v := .tuple #[.agg #[.string NM, .int .i64 (RR : Int), .int .i64 (CC : Int)], .bool true]) (by simp [results, Tryz.results86, go_sem]) rfl (.inl ⟨_, _, _, HE.out, by rw [hNMe], B1.out.drew⟩)
      · have hb : ((c.toNat : Int) != 46) = true := by simp; omega
        obtain ⟨m, hm⟩ : ∃ m, c.toNat = m := ⟨_, rfl⟩
        rw [hm] at hg hb
        have HA := Lib.hid (show (∀ j c, j < k + 1 → l[j]? = some c → c.toNat ≠ 46) ∧ k < l.length from ⟨fun j x hj hx => by
          by_cases e : j = k
          · subst e; rw [hc] at hx; cases hx; exact h46
          · exact hall j x (by omega) hx, hkl⟩)
        clear exitW hall hc h46 hm hbyte hsub hgk hkl hk
        go_wp2
        go_roundw
        case rel => exact ⟨k + 1, by have := HA.out.2; omega, by go_num, HA.out.1, trivial⟩
        case measure => have := HA.out.2; simp [intOf]; omega
    · have hdot := exitW (.inl (by omega))
      have hlB : decide ((k : Int) < (l.length : Int)) = false := decide_eq_false (by omega)
      clear exitW hall
      have HE := Lib.hid (well_short (l := l) (by omega))
      have w2 : IntKind.i64.wrap ((k : Int) + 2) = (k : Int) + 2 := by rw [IntKind.wrap_i64]; omega
      have w2B : decide ((l.length : Int) ≤ (k : Int) + 2) = true := decide_eq_true (by omega)
      clear hbyte hsub hgk hdot hk
      go_wp2
      exact bodyPost_ret (v := .tuple #[.agg #[.string ⟨#[]⟩, .int .i64 0, .int .i64 0], .bool false]) (by simp [results, Tryz.results86, go_sem]) rfl (.inr ⟨HE.out, rfl, BB.out⟩)
end Go.Proofs.YtflklpflpjdbmaaGreatDoor

namespace Go.Proofs.YtflklpflpjdbmaaGreatDoor
open Go.RowKit
set_option linter.unusedVariables false
/-- Words behind a slice that begins anywhere in its row. -/
def IsWd (w : World) (v : Value) (ws : List Wd) : Prop :=
  ∃ g o cap, v = .slice (some ⟨g, o, none⟩) ws.length cap ∧ ws.length ≤ cap ∧ cap ≤ maxLen ∧ ∀ i x, ws[i]? = some x → w.cell? ⟨g, o + i * 2, none⟩ = some (.int .i64 ((x.1 : Nat) : Int)) ∧ w.cell? ⟨g, o + i * 2 + 1, none⟩ = some (.string (strB x.2))
theorem IsWd.keep {w w' : World} {v : Value} {ws : List Wd} (h : IsWd w v ws) (q : B w w') : IsWd w' v ws :=
  let ⟨g, o, cap, h1, h2, h3, h4⟩ := h
  ⟨g, o, cap, h1, h2, h3, fun i x hx => ⟨q.keep (h4 i x hx).1, q.keep (h4 i x hx).2⟩⟩
theorem IsWords.wd {w : World} {v : Value} {ws : List Wd} (h : IsWords w v ws) (hn : 0 < ws.length) : IsWd w v ws := by
  obtain ⟨g, cap, h1, h2, h3, _, h5⟩ := h.full hn
  exact ⟨g, 0, cap, h1, h2, h3, fun i x hx => by simpa using h5 i x hx⟩
/-- A reader: what words are left, which fault was met (an offset, an error). -/
def RdAt (Wb w : World) (R : Nat) (l : List Wd) (p e : Int) : Prop :=
  ∃ v, w.heap[R]? = some (.cells #[v, .int .i64 p, .int .i64 e] 150 (0, 0)) ∧ IsWd Wb v l
theorem RdAt.same {Wb w w' : World} {R : Nat} {l : List Wd} {p e : Int} (h : RdAt Wb w R l p e) (hb : w'.heap[R]? = w.heap[R]?) : RdAt Wb w' R l p e :=
  let ⟨v, k1, k2⟩ := h
  ⟨v, hb.trans k1, k2⟩
def kR : List (Option TypeId) := [some 150]
set_option maxHeartbeats 1000000 in
theorem next_any (Wb w : World) (base R : Nat) (x : Wd) (l : List Wd) (p e : Int) (hb : Wb.heap.size ≤ base) (hB : B Wb w) (hR : base ≤ R) (h : RdAt Wb w R (x :: l) p e) :
    Calls Tryz.prog 109 #[.pointer (some ⟨R, 0, none⟩)] w fun r w' => r = .returned (.agg #[.int .i64 ((x.1 : Nat) : Int), .string (strB x.2)]) ∧ RdAt Wb w' R l p e ∧ Tn kR base w w' := by
  obtain ⟨v, ho, hv⟩ := h
  obtain ⟨g, o, cap, rfl, h2, h3, h4⟩ := hv
  obtain ⟨x0, x1⟩ : w.cell? ⟨g, o, none⟩ = some (.int .i64 ((x.1 : Nat) : Int)) ∧ w.cell? ⟨g, o + 1, none⟩ = some (.string (strB x.2)) := by
    have := h4 0 x rfl
    exact ⟨hB.keep (by simpa using this.1), hB.keep (by simpa using this.2)⟩
  have hgl := World.block_lt_of_cell? w _ x0
  have hRl := obj_lt ho
  have r0 : w.cell? ⟨R, 0, none⟩ = some (.slice (some ⟨g, o, none⟩) (l.length + 1) cap) := obj_cell ho 0
  have rf := obj_free ho 0
  have hl0 : (0 : Int) < ((l.length : Int) + 1) := by omega
  have hcap : (l.length : Int) + 1 ≤ (cap : Int) := by simp at h2; omega
  go_enter Tryz.func109, Tryz.ntmps109
  go_wp2
  · refine bodyPost_ret (v := .agg #[.int .i64 ((x.1 : Nat) : Int), .string (strB x.2)]) (by simp [results, Tryz.results109, go_sem, *]) rfl ?_
    refine ⟨rfl, ⟨_, obj_past (obj_past (obj_set ho 0 _) _) _, ?_⟩, ?_⟩
    · obtain rfl : l = [] := by
        subst h
        simp at h2
        exact h2
      refine ⟨g, o, 0, rfl, Nat.le_refl _, Nat.zero_le _, fun i y hy => by simp at hy⟩
    · exact (((Tn.refl _ _ _).set ho (by decide) hR _).alloc _ _).alloc _ _
  · refine bodyPost_ret (v := .agg #[.int .i64 ((x.1 : Nat) : Int), .string (strB x.2)]) (by simp [results, Tryz.results109, go_sem, *]) rfl ?_
    refine ⟨rfl, ⟨_, obj_past (obj_past (obj_set ho 0 _) _) _, ?_⟩, ?_⟩
    · refine ⟨g, o + 2, cap - 1, rfl, by simp at h2; omega, by omega, fun i y hy => ?_⟩
      have := h4 (i + 1) y (by simpa using hy)
      rw [show o + 2 + i * 2 = o + (i + 1) * 2 by omega]
      exact this
    · exact (((Tn.refl _ _ _).set ho (by decide) hR _).alloc _ _).alloc _ _
/-- What a reader's fault is behind a word that may be wrong. -/
def askF (right : Bool) (p e a k : Int) : Int × Int := if right = false ∧ e = 0 then (a, k) else (p, e)
theorem ask_any (Wb w : World) (base R : Nat) (l : List Wd) (a : Int) (s : ByteArray) (right : Bool) (p e k : Int) (hb : Wb.heap.size ≤ base) (hB : B Wb w) (hR : base ≤ R) (h : RdAt Wb w R l p e) :
    Calls Tryz.prog 110 #[.pointer (some ⟨R, 0, none⟩), .agg #[.int .i64 a, .string s], .bool right, .int .i64 k] w fun r w' => r = .returned (.tuple #[]) ∧ RdAt Wb w' R l (askF right p e a k).1 (askF right p e a k).2 ∧ Tn kR base w w' := by
  obtain ⟨v, ho, hv⟩ := h
  have hRl := obj_lt ho
  have r1 : w.cell? ⟨R, 1, none⟩ = some (.int .i64 p) := obj_cell ho 1
  have r2 : w.cell? ⟨R, 2, none⟩ = some (.int .i64 e) := obj_cell ho 2
  have rf1 := obj_free ho 1
  have rf2 := obj_free ho 2
  cases right
  · by_cases he : e = 0
    · subst he
      go_enter Tryz.func110, Tryz.ntmps110
      go_wp2
      first | go_end0 | refine bodyPost_ret (results_none rfl _ _ _) rfl ?_
      refine ⟨rfl, ⟨v, obj_past (obj_set (obj_set ho 1 _) 2 _) _, hv⟩, ?_⟩
      exact (((Tn.refl _ _ _).set ho (by decide) hR _).set (obj_set ho 1 _) (by decide) hR _).alloc _ _
    · have he' : ((e == 0) : Bool) = false := by simpa using he
      go_enter Tryz.func110, Tryz.ntmps110
      go_wp2
      first | go_end0 | refine bodyPost_ret (results_none rfl _ _ _) rfl ?_
      refine ⟨rfl, ⟨v, ?_, hv⟩, (Tn.refl _ _ _).alloc _ _⟩
      simp only [askF, he, and_false, if_false]
      exact obj_past ho _
  · go_enter Tryz.func110, Tryz.ntmps110
    go_wp2
    first | go_end0 | refine bodyPost_ret (results_none rfl _ _ _) rfl ?_
    refine ⟨rfl, ⟨v, obj_past ho _, hv⟩, (Tn.refl _ _ _).alloc _ _⟩
/-- A number's text within bounds. -/
def numIn (lo hi : Int) (s : ByteArray) : Bool := numOk s && decide (lo ≤ (numV s : Int)) && decide ((numV s : Int) ≤ hi)
theorem within_any (v a b : Int) (w : World) : Calls Tryz.prog 39 #[.int .i64 v, .int .i64 a, .int .i64 b] w fun e w' => e = .returned (.bool (decide (a ≤ v) && decide (v ≤ b))) ∧ w = w' := by
  by_cases h1 : a ≤ v
  · have k1 : decide (a ≤ v) = true := decide_eq_true h1
    cases k2 : decide (v ≤ b)
    all_goals
      go_enter Tryz.func39, Tryz.ntmps39
      go_wp2
      go_ret
      exact ⟨by simp [*], rfl⟩
  · have k1 : decide (a ≤ v) = false := decide_eq_false h1
    go_enter Tryz.func39, Tryz.ntmps39
    go_wp2
    go_ret
    exact ⟨by simp [*], rfl⟩
end Go.Proofs.YtflklpflpjdbmaaGreatDoor

namespace Go.Proofs.YtflklpflpjdbmaaGreatDoor
open Go.RowKit
set_option linter.unusedVariables false
theorem index_dot (l : List UInt8) : Lib.indexByte l 46 = if dotAt l < l.length then (dotAt l : Int) else -1 := by
  induction l with
  | nil => rfl
  | cons b l ih =>
    by_cases hb : b.toNat = 46
    · have e : b = 46 := by
        apply UInt8.toNat_inj.1
        simpa using hb
      subst e
      simp [Lib.indexByte, dotAt]
    · have hne : (b == (46 : UInt8)) = false := by
        simp only [beq_eq_false_iff_ne, ne_eq]
        intro e
        subst e
        exact hb rfl
      have hd : dotAt (b :: l) = dotAt l + 1 := by
        unfold dotAt
        rw [List.takeWhile_cons, if_pos (by simpa using hb)]
        rfl
      rw [Lib.indexByte, hne, ih, hd]
      by_cases hl : dotAt l < l.length
      · have h2 : ((dotAt l : Int) == -1) = false := by
          rw [beq_eq_false_iff_ne]
          omega
        simp only [hl, if_true, h2, Bool.false_eq_true, if_false]
        rw [if_pos (by simp; omega)]
        omega
      · simp [hl]
theorem cut_any (l : List UInt8) (w : World) (hl : l.length ≤ 65536) : Calls Tryz.prog 119 #[.string (strB l), .string ⟨#[46]⟩] w fun e w' => e = .returned (.tuple #[.string (strB (l.take (dotAt l))), .string (strB (l.drop (dotAt l + 1))), .bool (decide (dotAt l < l.length))]) ∧ Dr w w' := by
  have hi := index_dot l
  have c1 := fun w => Tryz.stringslite_Index_one (strB l) 46 w
  have hd : (strB l).data.toList = l := rfl
  rw [hd, hi] at c1
  clear hi hd
  have hdl := dot_le l
  have hz : (strB l).size = l.length := strB_size l
  have inner : Calls Tryz.prog 122 #[.string (strB l), .string ⟨#[46]⟩] w fun e w' => e = .returned (.tuple #[.string (strB (l.take (dotAt l))), .string (strB (l.drop (dotAt l + 1))), .bool (decide (dotAt l < l.length))]) ∧ Dr w w' := by
    by_cases h : dotAt l < l.length
    · rw [if_pos h] at c1
      generalize dotAt l = k at *
      go_enter Tryz.func122, Tryz.ntmps122
      go_wp2_with fail
      refine (c1 _).mono ?_
      rintro _ _ ⟨rfl, rfl⟩
      clear c1
      have k0 : (0 : Int) ≤ (k : Int) := by omega
      have k1 : (k : Int) ≤ ((strB l).size : Int) := by rw [hz]; omega
      have kI : (k : Int) < (l.length : Int) := by omega
      have wk : IntKind.i64.wrap ((k : Int) + 1) = (k : Int) + 1 := by rw [IntKind.wrap_i64]; omega
      go_wp2
      have e1 : (strB l).extract 0 k = strB (l.take k) := by rw [strB_sub]; simp
      have e2 : (strB l).extract (k + 1) l.length = strB (l.drop (k + 1)) := by
        rw [strB_sub, List.take_of_length_le (by simp)]
      have e3 : decide (k < l.length) = true := decide_eq_true h
      have HE := Lib.hid (And.intro e1 (And.intro e2 e3))
      clear e1 e2 e3 h
      go_region
      all_goals
        go_wp2
        obtain ⟨e1, e2, e3⟩ := HE.out
        refine bodyPost_ret (v := .tuple #[.string ((strB l).extract 0 k), .string ((strB l).extract (k + 1) l.length), .bool true]) (by simp [results, Tryz.results122, go_sem]) rfl ⟨by rw [e1, e2, e3], (Dr.refl _).trans ⟨1, rfl⟩⟩
    · rw [if_neg h] at c1
      obtain ⟨k, hk⟩ : ∃ k, dotAt l = k := ⟨_, rfl⟩
      obtain rfl : k = l.length := by omega
      have HK := Lib.hid hk
      rw [hk]
      clear hk h hdl
      go_enter Tryz.func122, Tryz.ntmps122
      go_wp2_with fail
      refine (c1 _).mono ?_
      rintro _ _ ⟨rfl, rfl⟩
      clear c1
      go_wp2
      refine bodyPost_ret (v := .tuple #[.string (strB l), .string ⟨#[]⟩, .bool false]) (by simp [results, Tryz.results122, go_sem]) rfl ⟨?_, Dr.refl _⟩
      have e3 : decide (l.length < l.length) = false := by simp
      rw [List.take_length, List.drop_of_length_le (by omega), e3]
      rfl
  go_enter Tryz.func119, Tryz.ntmps119
  go_wp2_with fail
  refine (Calls.mono inner ?_)
  rintro _ w1 ⟨rfl, q1⟩
  go_wp2
  exact bodyPost_ret (v := .tuple #[.string (strB (l.take (dotAt l))), .string (strB (l.drop (dotAt l + 1))), .bool (decide (dotAt l < l.length))]) (by simp [results, Tryz.results119, go_sem]) rfl ⟨rfl, q1⟩
/-- The well of a text, its ware's name, its row not yet looked at. -/
def cwell (l : List UInt8) : Option (List UInt8 × Int × Int) :=
  match l.drop (dotAt l + 1) with
  | [] => none
  | r :: ds => if numIn 1 12 (strB ds) = true then some (l.take (dotAt l), (r.toNat : Int) - 65, (numV (strB ds) : Int) - 1) else none
def wellV : Option (List UInt8 × Int × Int) → Value
  | some (n, r, c) => .agg #[.string (strB n), .int .i64 r, .int .i64 c]
  | none => .agg #[.string ⟨#[]⟩, .int .i64 0, .int .i64 0]
theorem wellof_any (l : List UInt8) (w : World) (hl : l.length ≤ 65536) : Calls Tryz.prog 112 #[.string (strB l)] w fun e w' => e = .returned (.tuple #[wellV (cwell l), .bool (cwell l).isSome]) ∧ B w w' := by
  have c1 := fun w => cut_any l w hl
  have hc : cwell l = match l.drop (dotAt l + 1) with
    | [] => none
    | r :: ds => if numIn 1 12 (strB ds) = true then some (l.take (dotAt l), (r.toNat : Int) - 65, (numV (strB ds) : Int) - 1) else none := rfl
  have hdl : (l.drop (dotAt l + 1)).length ≤ 65536 := by rw [List.length_drop]; omega
  generalize cwell l = CW at *
  generalize l.take (dotAt l) = N at *
  generalize l.drop (dotAt l + 1) = PL at *
  generalize decide (dotAt l < l.length) = FB at *
  cases PL with
  | nil =>
    simp only at hc
    subst hc
    have he : (strB ([] : List UInt8)) = ⟨#[]⟩ := rfl
    rw [he] at c1
    go_enter Tryz.func112, Tryz.ntmps112
    go_wp2_with fail
    refine (c1 _).mono ?_
    rintro _ w1 ⟨rfl, ⟨m, rfl⟩⟩
    clear c1
    go_wp2
    have oR := obj_three (w := (w.alloc (.cells #[.string ⟨#[]⟩, .int .i64 0, .int .i64 0] 39)).drewN m) (obj_new w _) (.string ⟨#[]⟩) (.int .i64 0) (.int .i64 0)
    have hQ := b_three (((B.refl w).alloc #[.string ⟨#[]⟩, .int .i64 0, .int .i64 0] 39).drewN m) (Nat.le_refl _) (.string ⟨#[]⟩) (.int .i64 0) (.int .i64 0)
    have cR0 := obj_cell oR 0
    have cR1 := obj_cell oR 1
    have cR2 := obj_cell oR 2
    exact bodyPost_ret (v := .tuple #[.agg #[.string ⟨#[]⟩, .int .i64 0, .int .i64 0], .bool false]) (by simp [results, Tryz.results112, go_sem, cR0, cR1, cR2]) rfl ⟨rfl, hQ⟩
  | cons r ds =>
    simp only at hc
    have hx : (strB (r :: ds)).toList.isEmpty = false := by rw [toList_empty]; exact decide_eq_false (by rw [strB_size]; simp)
    have hz : (strB (r :: ds)).size = ds.length + 1 := by rw [strB_size]; rfl
    have hsl : (strB (r :: ds)).extract 1 (ds.length + 1) = strB ds := by
      rw [strB_sub, List.take_of_length_le (by simp)]
      rfl
    have hby : ∀ h : 0 < (strB (r :: ds)).size, (strB (r :: ds))[0] = r := fun _ => rfl
    obtain ⟨OK, hOK⟩ : ∃ b, numOk (strB ds) = b := ⟨_, rfl⟩
    obtain ⟨V, hV⟩ : ∃ n, numV (strB ds) = n := ⟨_, rfl⟩
    have hVm : V ≤ 1000000000000 := by
      rw [← hV]
      cases ho : numOk (strB ds)
      · rw [(num_no (fun h => by have := numOk_iff.2 h; rw [ho] at this; cases this)).2]; omega
      · rw [(num_yes (numOk_iff.1 ho)).2]; exact (numOk_iff.1 ho).2.2.2
    have hin : numIn 1 12 (strB ds) = (OK && decide ((1 : Int) ≤ (V : Int)) && decide ((V : Int) ≤ 12)) := by unfold numIn; rw [hOK, hV]
    have cn : ∀ w, Calls Tryz.prog 111 #[.string (strB ds)] w fun e w' => e = .returned (.tuple #[.int .i64 (V : Int), .bool OK]) ∧ B w w' := fun w => by rw [← hOK, ← hV]; exact number_any _ w
    rw [hin, hV] at hc
    clear hin hOK hV
    have hr256 : r.toNat < 256 := r.toNat_lt
    go_enter Tryz.func112, Tryz.ntmps112
    go_wp2_with fail
    refine (c1 _).mono ?_
    rintro _ w1 ⟨rfl, ⟨m, rfl⟩⟩
    clear c1
    go_wp2_with fail
    refine (cn _).mono ?_
    rintro _ w2 ⟨rfl, q2⟩
    clear cn
    have oR := q2.obj (show ((w.alloc (.cells #[.string ⟨#[]⟩, .int .i64 0, .int .i64 0] 39)).drewN m).heap[w.heap.size]? = _ from obj_new w _)
    have hB : B w w2 := (((B.refl w).alloc _ _).drewN m).trans q2
    have hQ3 := fun x y z => b_three hB (b := w.heap.size) (Nat.le_refl _) x y z
    have hb0 : w2.cell? ⟨w.heap.size, 0, none⟩ = some (.string ⟨#[]⟩) := obj_cell oR 0
    have hb1 : w2.cell? ⟨w.heap.size, 1, none⟩ = some (.int .i64 0) := obj_cell oR 1
    have hb2 : w2.cell? ⟨w.heap.size, 2, none⟩ = some (.int .i64 0) := obj_cell oR 2
    have hf0 := obj_free oR 0
    have hf1 := obj_free oR 1
    have hf2 := obj_free oR 2
    generalize w.heap.size = H at *
    cases OK
    · obtain rfl : CW = none := by simpa using hc
      go_wp2
      have oR := obj_three oR (.string ⟨#[]⟩) (.int .i64 0) (.int .i64 0)
      have hQ := hQ3 (.string ⟨#[]⟩) (.int .i64 0) (.int .i64 0)
      have cR0 := obj_cell oR 0
      have cR1 := obj_cell oR 1
      have cR2 := obj_cell oR 2
      exact bodyPost_ret (v := .tuple #[.agg #[.string ⟨#[]⟩, .int .i64 0, .int .i64 0], .bool false]) (by simp [results, Tryz.results112, go_sem, cR0, cR1, cR2]) rfl ⟨rfl, hQ⟩
    · have cw := fun w => within_any (V : Int) 1 12 w
      cases hw : (decide ((1 : Int) ≤ (V : Int)) && decide ((V : Int) ≤ 12))
      · obtain rfl : CW = none := by
          rw [hc, if_neg]
          rw [Bool.true_and, hw]; simp
        rw [hw] at cw
        clear hw hc
        go_wp2_with (go_at_call 39; refine (cw _).mono ?_; rintro _ _ ⟨rfl, rfl⟩)
        have oR := obj_three oR (.string ⟨#[]⟩) (.int .i64 0) (.int .i64 0)
        have hQ := hQ3 (.string ⟨#[]⟩) (.int .i64 0) (.int .i64 0)
        have cR0 := obj_cell oR 0
        have cR1 := obj_cell oR 1
        have cR2 := obj_cell oR 2
        exact bodyPost_ret (v := .tuple #[.agg #[.string ⟨#[]⟩, .int .i64 0, .int .i64 0], .bool false]) (by simp [results, Tryz.results112, go_sem, cR0, cR1, cR2]) rfl ⟨rfl, hQ⟩
      · have hV12 : 1 ≤ V ∧ V ≤ 12 := by
          simp only [Bool.and_eq_true, decide_eq_true_eq] at hw
          omega
        obtain rfl : CW = some (N, (r.toNat : Int) - 65, (V : Int) - 1) := by
          rw [hc, if_pos]
          rw [Bool.true_and, hw]
        rw [hw] at cw
        have u1 : IntKind.i64.wrap (r.toNat : Int) = (r.toNat : Int) := by rw [IntKind.wrap_i64]; omega
        have u2 : IntKind.i64.wrap ((r.toNat : Int) - 65) = (r.toNat : Int) - 65 := by rw [IntKind.wrap_i64]; omega
        have u3 : IntKind.i64.wrap ((V : Int) - 1) = (V : Int) - 1 := by rw [IntKind.wrap_i64]; omega
        have v1 : wrap64 (r.toNat : Int) = (r.toNat : Int) := by unfold wrap64; omega
        have v2 : wrap64 ((r.toNat : Int) - 65) = (r.toNat : Int) - 65 := by unfold wrap64; omega
        clear hw hc
        go_wp2_with (go_at_call 39; refine (cw _).mono ?_; rintro _ _ ⟨rfl, rfl⟩)
        have oR := obj_three oR (.string (strB N)) (.int .i64 ((r.toNat : Int) - 65)) (.int .i64 ((V : Int) - 1))
        have hQ := hQ3 (.string (strB N)) (.int .i64 ((r.toNat : Int) - 65)) (.int .i64 ((V : Int) - 1))
        have cR0 := obj_cell oR 0
        have cR1 := obj_cell oR 1
        have cR2 := obj_cell oR 2
        exact bodyPost_ret (v := .tuple #[.agg #[.string (strB N), .int .i64 ((r.toNat : Int) - 65), .int .i64 ((V : Int) - 1)], .bool true]) (by simp [results, Tryz.results112, go_sem, cR0, cR1, cR2]) rfl ⟨rfl, hQ⟩
end Go.Proofs.YtflklpflpjdbmaaGreatDoor

namespace Go.Proofs.YtflklpflpjdbmaaGreatDoor
open Go.RowKit
set_option linter.unusedVariables false
set_option maxHeartbeats 1000000 in
theorem number9_any (Wb w : World) (base R : Nat) (x : Wd) (l : List Wd) (p e lo hi : Int) (hb : Wb.heap.size ≤ base) (hB : B Wb w) (hR : base ≤ R) (h : RdAt Wb w R (x :: l) p e) :
    Calls Tryz.prog 98 #[.pointer (some ⟨R, 0, none⟩), .int .i64 lo, .int .i64 hi] w fun r w' => r = .returned (.int .i64 ((numV (strB x.2) : Nat) : Int)) ∧
      RdAt Wb w' R l (askF (numIn lo hi (strB x.2)) p e x.1 20).1 (askF (numIn lo hi (strB x.2)) p e x.1 20).2 ∧ Tn kR base w w' := by
  have c1 := next_any Wb w base R x l p e hb hB hR h
  obtain ⟨OK, hOK⟩ : ∃ b, numOk (strB x.2) = b := ⟨_, rfl⟩
  obtain ⟨V, hV⟩ : ∃ n, numV (strB x.2) = n := ⟨_, rfl⟩
  have hin : numIn lo hi (strB x.2) = (OK && decide (lo ≤ (V : Int)) && decide ((V : Int) ≤ hi)) := by unfold numIn; rw [hOK, hV]
  have cn : ∀ w, Calls Tryz.prog 111 #[.string (strB x.2)] w fun e w' => e = .returned (.tuple #[.int .i64 (V : Int), .bool OK]) ∧ B w w' := fun w => by rw [← hOK, ← hV]; exact number_any _ w
  rw [hin, hV]
  clear hin hOK hV h
  go_enter Tryz.func98, Tryz.ntmps98
  go_wp2_with fail
  refine (Calls.mono c1 ?_)
  rintro _ w1 ⟨rfl, h1, t1⟩
  clear c1
  go_wp2_with fail
  refine (cn _).mono ?_
  rintro _ w2 ⟨rfl, q2⟩
  have o1 := q2.obj (obj_new w1 _)
  have t2 : Tn kR base w w2 := (t1.alloc _ _).trans (q2.tn _ _)
  have h2 : RdAt Wb w2 R l p e := let ⟨v, k1, k2⟩ := h1; ⟨v, q2.obj (obj_past k1 _), k2⟩
  have n0 : w2.cell? ⟨w1.heap.size, 0, none⟩ = some (.int .i64 ((x.1 : Nat) : Int)) := obj_cell o1 0
  have n1 : w2.cell? ⟨w1.heap.size, 1, none⟩ = some (.string (strB x.2)) := obj_cell o1 1
  clear o1 h1 t1 q2 cn
  generalize w1.heap.size = G at *
  cases OK
  · go_wp2_with fail
    refine wp_region_noPanic ?_
    refine wp_region_gate (S := fun w' => w'.cell? ⟨G, 0, none⟩ = some (.int .i64 ((x.1 : Nat) : Int)) ∧ w'.cell? ⟨G, 1, none⟩ = some (.string (strB x.2)) ∧ RdAt Wb w' R l p e ∧ Tn kR base w w') 9 [(0, 3), (1, 0), (2, 3), (3, 3), (4, 1), (5, 1), (6, 1), (7, 1), (8, 3), (9, 4)] [0, 0, 0, 4, 8, 8, 8, 120, 136, 387] [0, 0, 0, 4, 8, 8, 8, 120, 136, 259] [0, 514, 0, 0, 0, 0, 0, 0, 0, 0] (by kernel_rfl) (by kernel_rfl) (fun _ _ _ _ _ h => h) ?_ (fun hH => ?_)
    · exact ⟨n0, n1, h2, t2.drew⟩
    refine wpSeqG_free (d := 18) (v := ?_) rfl rfl (by kernel_rfl) (fun w => ?_) ?_
    rotate_left
    · go_simp <;> with_reducible rfl
    dsimp only [List.set_cons_zero, List.set_cons_succ]
    refine wpSeqG_take (d := 19) (v := ?_) rfl rfl (by kernel_rfl) (fun w hS => ?_) ?_
    rotate_left
    · go_simp <;> with_reducible rfl
    dsimp only [List.set_cons_zero, List.set_cons_succ]
    refine wpSeqG_free (d := 20) (v := ?_) rfl rfl (by kernel_rfl) (fun w => ?_) ?_
    rotate_left
    · go_simp <;> with_reducible rfl
    dsimp only [List.set_cons_zero, List.set_cons_succ]
    refine wpSeqG_free (d := 21) (v := ?_) rfl rfl (by kernel_rfl) (fun w => ?_) ?_
    rotate_left
    · go_simp <;> with_reducible rfl
    dsimp only [List.set_cons_zero, List.set_cons_succ]
    refine wpSeqG_skip (d := 22) rfl rfl (by kernel_rfl) (by rfl) ?_
    refine wpSeqG_skip (d := 23) rfl rfl (by kernel_rfl) (by rfl) ?_
    refine wpSeqG_skip (d := 24) rfl rfl (by kernel_rfl) (by rfl) ?_
    refine wpSeqG_skip (d := 25) rfl rfl (by kernel_rfl) (by rfl) ?_
    refine wpSeqG_free (d := 26) (v := ?_) rfl rfl (by kernel_rfl) (fun w => ?_) ?_
    rotate_left
    · go_simp <;> with_reducible rfl
    dsimp only [List.set_cons_zero, List.set_cons_succ]
    refine wpSeqG_gate rfl (by kernel_rfl) (fun K hK => ?_)
    go_simp
    (with_reducible refine (ask_any Wb _ base R l x.1 (strB x.2) false p e 20 hb (hH.2.2.2.toB hB hb) hR hH.2.2.1).mono ?_)
    rintro _ w3 ⟨rfl, h3, t3⟩
    replace t3 := hH.2.2.2.trans t3
    clear hH
    refine hK.out _ _ ?_
    clear hK
    refine wpSeqG_done ?_
    refine NoPanic.normal ?_
    go_wp2
    go_ret
    exact ⟨rfl, h3, t3⟩
  · obtain ⟨RR, hRR⟩ : ∃ r, (true && decide (lo ≤ (V : Int)) && decide ((V : Int) ≤ hi)) = r := ⟨_, rfl⟩
    have cw : ∀ w, Calls Tryz.prog 39 #[.int .i64 (V : Int), .int .i64 lo, .int .i64 hi] w fun e w' => e = .returned (.bool RR) ∧ w = w' := fun w => by
      have e1 : (decide (lo ≤ (V : Int)) && decide ((V : Int) ≤ hi)) = RR := by rw [← hRR]; simp
      rw [← e1]
      exact within_any (V : Int) lo hi w
    replace hRR := Lib.hid hRR
    go_wp2_with fail
    refine wp_region_noPanic ?_
    refine wp_region_gate (S := fun w' => w'.cell? ⟨G, 0, none⟩ = some (.int .i64 ((x.1 : Nat) : Int)) ∧ w'.cell? ⟨G, 1, none⟩ = some (.string (strB x.2)) ∧ RdAt Wb w' R l p e ∧ Tn kR base w w') 9 [(0, 3), (1, 0), (2, 3), (3, 3), (4, 3), (5, 3), (6, 3), (7, 2), (8, 3), (9, 4)] [0, 0, 0, 4, 8, 8, 8, 120, 136, 387] [0, 0, 0, 4, 8, 8, 8, 120, 136, 259] [0, 514, 0, 0, 0, 0, 0, 0, 0, 0] (by kernel_rfl) (by kernel_rfl) (fun _ _ _ _ _ h => h) ?_ (fun hH => ?_)
    · exact ⟨n0, n1, h2, t2.drew⟩
    refine wpSeqG_free (d := 18) (v := ?_) rfl rfl (by kernel_rfl) (fun w => ?_) ?_
    rotate_left
    · go_simp <;> with_reducible rfl
    dsimp only [List.set_cons_zero, List.set_cons_succ]
    refine wpSeqG_take (d := 19) (v := ?_) rfl rfl (by kernel_rfl) (fun w hS => ?_) ?_
    rotate_left
    · go_simp <;> with_reducible rfl
    dsimp only [List.set_cons_zero, List.set_cons_succ]
    refine wpSeqG_free (d := 20) (v := ?_) rfl rfl (by kernel_rfl) (fun w => ?_) ?_
    rotate_left
    · go_simp <;> with_reducible rfl
    dsimp only [List.set_cons_zero, List.set_cons_succ]
    refine wpSeqG_free (d := 21) (v := ?_) rfl rfl (by kernel_rfl) (fun w => ?_) ?_
    rotate_left
    · go_simp <;> with_reducible rfl
    dsimp only [List.set_cons_zero, List.set_cons_succ]
    refine wpSeqG_free (d := 22) (v := ?_) rfl rfl (by kernel_rfl) (fun w => ?_) ?_
    rotate_left
    · go_simp <;> with_reducible rfl
    dsimp only [List.set_cons_zero, List.set_cons_succ]
    refine wpSeqG_free (d := 23) (v := ?_) rfl rfl (by kernel_rfl) (fun w => ?_) ?_
    rotate_left
    · go_simp <;> with_reducible rfl
    dsimp only [List.set_cons_zero, List.set_cons_succ]
    refine wpSeqG_free (d := 24) (v := ?_) rfl rfl (by kernel_rfl) (fun w => ?_) ?_
    rotate_left
    · go_simp <;> with_reducible rfl
    dsimp only [List.set_cons_zero, List.set_cons_succ]
    refine wpSeqG_call rfl (by kernel_rfl) (fun K hK => ?_)
    go_simp
    (with_reducible refine (cw _).mono ?_)
    rintro e w' ⟨rfl, rfl⟩
    refine hK.out _ _ hH (fun hH => ?_)
    clear hK
    refine wpSeqG_free (d := 26) (v := ?_) rfl rfl (by kernel_rfl) (fun w => ?_) ?_
    rotate_left
    · go_simp <;> with_reducible rfl
    dsimp only [List.set_cons_zero, List.set_cons_succ]
    refine wpSeqG_gate rfl (by kernel_rfl) (fun K hK => ?_)
    go_simp
    (with_reducible refine (ask_any Wb _ base R l x.1 (strB x.2) RR p e 20 hb (hH.2.2.2.toB hB hb) hR hH.2.2.1).mono ?_)
    rintro _ w3 ⟨rfl, h3, t3⟩
    replace t3 := hH.2.2.2.trans t3
    clear hH
    refine hK.out _ _ ?_
    clear hK
    refine wpSeqG_done ?_
    refine NoPanic.normal ?_
    go_wp2
    go_ret
    exact ⟨rfl, by rw [hRR.out]; exact h3, t3⟩
theorem size9_any (Wb w : World) (base R : Nat) (x : Wd) (l : List Wd) (p e : Int) (hb : Wb.heap.size ≤ base) (hB : B Wb w) (hR : base ≤ R) (h : RdAt Wb w R (x :: l) p e) :
    Calls Tryz.prog 100 #[.pointer (some ⟨R, 0, none⟩)] w fun r w' => r = .returned (.int .i64 ((numV (strB x.2) : Nat) : Int)) ∧
      RdAt Wb w' R l (askF (numOk (strB x.2)) p e x.1 20).1 (askF (numOk (strB x.2)) p e x.1 20).2 ∧ Tn kR base w w' := by
  have c1 := number9_any Wb w base R x l p e 0 9223372036854775807 hb hB hR h
  have hin : numIn 0 9223372036854775807 (strB x.2) = numOk (strB x.2) := by
    unfold numIn
    cases ho : numOk (strB x.2)
    · rfl
    · have := (numOk_iff.1 ho).2.2.2
      have h2 := (num_yes (numOk_iff.1 ho)).2
      have k1 : decide ((0 : Int) ≤ (numV (strB x.2) : Int)) = true := decide_eq_true (by omega)
      have k2 : decide ((numV (strB x.2) : Int) ≤ 9223372036854775807) = true := decide_eq_true (by omega)
      rw [k1, k2]; rfl
  rw [hin] at c1
  clear hin h
  go_enter Tryz.func100, Tryz.ntmps100
  go_wp2_with fail
  refine (Calls.mono c1 ?_)
  rintro _ w1 ⟨rfl, h1, t1⟩
  go_wp2
  go_ret
  exact ⟨rfl, h1, t1⟩
end Go.Proofs.YtflklpflpjdbmaaGreatDoor

namespace Go.Proofs.YtflklpflpjdbmaaGreatDoor
open Go.RowKit
set_option linter.unusedVariables false
def kRM : List (Option TypeId) := [some 150, none]
theorem RdAt.tn {K : List (Option TypeId)} {base : Nat} {Wb w w' : World} {R : Nat} {l : List Wd} {p e : Int} (h : RdAt Wb w R l p e) (t : Tn K base w w') (hK : some 150 ∉ K) : RdAt Wb w' R l p e :=
  let ⟨v, k1, k2⟩ := h
  ⟨v, t.objc k1 hK, k2⟩
theorem NmAt.tn {K : List (Option TypeId)} {base : Nat} {w w' : World} {b : Nat} {ns : List ByteArray} (h : NmAt w b ns) (t : Tn K base w w') (hK : none ∉ K) : NmAt w' b ns := by
  obtain ⟨es, c, ho⟩ := h.obj
  exact h.same ((t.objm ho hK).trans ho.symm)
set_option maxHeartbeats 1000000 in
set_option maxRecDepth 100000 in
theorem rname_any (Wb w : World) (base R b : Nat) (ns : List ByteArray) (x : Wd) (l : List Wd) (p e : Int) (hb : Wb.heap.size ≤ base) (hB : B Wb w) (hR : base ≤ R) (h : RdAt Wb w R (x :: l) p e)
    (hm : NmAt w b ns) (hbm : base ≤ b) (hn : ns.length < 1000) (hx : x.2.length ≤ 65536) :
    Calls Tryz.prog 97 #[.pointer (some ⟨R, 0, none⟩), .map (some b)] w fun r w' => r = .returned (.string (strB x.2)) ∧
      RdAt Wb w' R l (askF (nameS (strB x.2) && !namedL ns (strB x.2)) p e x.1 25).1 (askF (nameS (strB x.2) && !namedL ns (strB x.2)) p e x.1 25).2 ∧
      NmAt w' b (addN ns (strB x.2)) ∧ Tn kRM base w w' ∧ Tm b w w' := by
  have c1 := next_any Wb w base R x l p e hb hB hR h
  have hsz : (strB x.2).size ≤ maxLen := by rw [strB_size]; unfold maxLen; omega
  go_enter Tryz.func97, Tryz.ntmps97
  go_wp2_with fail
  refine (Calls.mono c1 ?_)
  rintro _ w1 ⟨rfl, h1, t1⟩
  have u1 : Tm b w (w1.alloc (.cells #[.int .i64 ((x.1 : Nat) : Int), .string (strB x.2)] 107)) := (t1.tm (by decide) b).trans (((B.refl w1).alloc _ _).tm b)
  clear c1 h
  go_wp2_with fail
  have hm1 := hm.tn t1 (by decide)
  have t2 : Tn kRM base w (w1.alloc (.cells #[.int .i64 ((x.1 : Nat) : Int), .string (strB x.2)] 107)) := (t1.mono (by decide) (Nat.le_refl _)).alloc _ _
  have h2 := h1.tn (((B.refl w1).alloc #[.int .i64 ((x.1 : Nat) : Int), .string (strB x.2)] 107).tn [] base) (by simp)
  have m2 := hm1.tn (((B.refl w1).alloc #[.int .i64 ((x.1 : Nat) : Int), .string (strB x.2)] 107).tn [] base) (by simp)
  have o1 := obj_new w1 (.cells #[.int .i64 ((x.1 : Nat) : Int), .string (strB x.2)] 107)
  generalize w1.heap.size = G at *
  generalize w1.alloc (.cells #[.int .i64 ((x.1 : Nat) : Int), .string (strB x.2)] 107) = w2 at *
  have n0 : w2.cell? ⟨G, 0, none⟩ = some (.int .i64 ((x.1 : Nat) : Int)) := obj_cell o1 0
  have n1 : w2.cell? ⟨G, 1, none⟩ = some (.string (strB x.2)) := obj_cell o1 1
  have cA := add_any w2.drew base b ns (strB x.2) hsz hn hbm m2
  clear hm hm1 m2 h1 t1
  obtain ⟨RR, hRR⟩ : ∃ r, (nameS (strB x.2) && !namedL ns (strB x.2)) = r := ⟨_, rfl⟩
  rw [hRR] at cA
  replace hRR := Lib.hid hRR
  have nx : ∀ w3, Tn kM base w2.drew w3 → w3.heap[G]? = some (.cells #[.int .i64 ((x.1 : Nat) : Int), .string (strB x.2)] 107 (0, 0)) ∧ w3.cell? ⟨G, 0, none⟩ = some (.int .i64 ((x.1 : Nat) : Int)) ∧ w3.cell? ⟨G, 1, none⟩ = some (.string (strB x.2)) ∧ Tn kRM base w w3 ∧
      Calls Tryz.prog 110 #[.pointer (some ⟨R, 0, none⟩), .agg #[.int .i64 ((x.1 : Nat) : Int), .string (strB x.2)], .bool RR, .int .i64 25] w3 fun r w' => r = .returned (.tuple #[]) ∧ RdAt Wb w' R l (askF RR p e x.1 25).1 (askF RR p e x.1 25).2 ∧ Tn kR base w3 w' := fun w3 t3 => by
    have o3 := Tn.objc (a := w2.drew) t3 o1 (by decide)
    have t23 := t2.drew.trans (t3.mono (K' := kRM) (by decide) (Nat.le_refl _))
    exact ⟨o3, obj_cell o3 0, obj_cell o3 1, t23, ask_any Wb w3 base R l x.1 (strB x.2) RR p e 25 hb (t23.toB hB hb) hR (RdAt.tn (w := w2.drew) h2 t3 (by decide))⟩
  go_region_with (first
    | (go_at_call 34; (with_reducible refine (Calls.mono cA ?_); rintro _ w3 ⟨rfl, m3, t3, u3⟩; obtain ⟨o3, n30, n31, t23, cK⟩ := nx _ t3))
    | (go_at_call 110; (with_reducible refine (Calls.mono cK ?_); rintro _ w4 ⟨rfl, h4, t4⟩)))
  all_goals
    have o4 := Tn.objc t4 o3 (by decide)
    have n40 : w4.cell? ⟨G, 0, none⟩ = some (.int .i64 ((x.1 : Nat) : Int)) := obj_cell o4 0
    have n41 : w4.cell? ⟨G, 1, none⟩ = some (.string (strB x.2)) := obj_cell o4 1
    clear nx cA cK n0 n1 n30 n31 o1 o3 o4
    go_wp2
    go_ret
    exact ⟨rfl, by rw [hRR.out]; exact h4, m3.tn t4 (by decide), t23.trans (t4.mono (by decide) (Nat.le_refl _)), (u1.trans (u3 : Tm b w2.drew w3)).trans (t4.tm (by decide) b)⟩
end Go.Proofs.YtflklpflpjdbmaaGreatDoor
