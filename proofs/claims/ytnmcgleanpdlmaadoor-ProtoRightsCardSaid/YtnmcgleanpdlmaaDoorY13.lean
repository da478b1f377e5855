/-
  Lines of words behind a slice that begins anywhere in its row. No program is named here; The code's Parse of protocols; The code's wells: Text.
-/
import Derived.Test.YtnmcgleanpdlmaaDoorY1
import Derived.Test.YtnmcgleanpdlmaaDoorY2
import Derived.Test.YtnmcgleanpdlmaaDoorY3
import Derived.Test.YtnmcgleanpdlmaaDoorY4
import Derived.Test.YtnmcgleanpdlmaaDoorY7
import Derived.Test.YtnmcgleanpdlmaaDoorY9
import Derived.Test.YtnmcgleanpdlmaaDoorY10
import Derived.Test.YtnmcgleanpdlmaaDoorY11
import Derived.Test.YtnmcgleanpdlmaaDoorY12
namespace Go.Proofs.YtnmcgleanpdlmaaDoor
open Go.RowKit
def IsLnO (w : World) (v : Value) (LL : List (List Wd)) : Prop :=
  (v = .slice none 0 0 ∧ LL = []) ∨
  ∃ g o cap, v = .slice (some ⟨g, o, none⟩) LL.length cap ∧ LL.length ≤ cap ∧ cap ≤ maxLen ∧ ∀ i L, LL[i]? = some L → ∃ u, w.cell? ⟨g, o + i, none⟩ = some u ∧ IsWords w u L
theorem IsLnO.keep {w w' : World} {v : Value} {LL : List (List Wd)} (h : IsLnO w v LL) (q : B w w') : IsLnO w' v LL := by
  rcases h with h | ⟨g, o, cap, h1, h2, h3, h4⟩
  · exact .inl h
  · exact .inr ⟨g, o, cap, h1, h2, h3, fun i L hL => let ⟨u, k1, k2⟩ := h4 i L hL; ⟨u, q.keep k1, k2.keep q⟩⟩
theorem IsLnO.form {w : World} {v : Value} {LL : List (List Wd)} (h : IsLnO w v LL) : ∃ ao cap, v = .slice ao LL.length cap := by
  rcases h with ⟨rfl, rfl⟩ | ⟨g, o, cap, rfl, _⟩ <;> exact ⟨_, _, rfl⟩
theorem IsLnO.at_ {w : World} {v : Value} {LL : List (List Wd)} (h : IsLnO w v LL) {i : Nat} (hi : i < LL.length) : ∃ g o cap u, v = .slice (some ⟨g, o, none⟩) LL.length cap ∧ w.cell? ⟨g, o + i, none⟩ = some u ∧ IsWords w u LL[i] := by
  rcases h with ⟨_, rfl⟩ | ⟨g, o, cap, h1, _, _, h4⟩
  · simp at hi
  · obtain ⟨u, k1, k2⟩ := h4 i _ (List.getElem?_eq_getElem hi)
    exact ⟨g, o, cap, u, h1, k1, k2⟩
theorem IsLines.lnO {w : World} {v : Value} {LL : List (List Wd)} (h : IsLines w v LL) : IsLnO w v LL := by
  rcases h with h | ⟨g, cap, h1, h2, h3, h4⟩
  · exact .inl h
  · exact .inr ⟨g, 0, cap, h1, h2, h3, fun i L hL => by rw [Nat.zero_add]; exact h4 i L hL⟩
/-- What stands behind the first k. -/
theorem IsLnO.drop {w : World} {g o cap : Nat} {LL : List (List Wd)} (h : IsLnO w (.slice (some ⟨g, o, none⟩) LL.length cap) LL) {k : Nat} (hk : k ≤ LL.length) :
    IsLnO w (.slice (some ⟨g, o + k, none⟩) (LL.length - k) (cap - k)) (LL.drop k) := by
  rcases h with ⟨e, _⟩ | ⟨g', o', cap', e, h2, h3, h4⟩
  · simp at e
  · obtain ⟨⟨rfl, rfl⟩, rfl⟩ : (g = g' ∧ o = o') ∧ cap = cap' := by simpa using e
    refine .inr ⟨g, o + k, cap - k, by rw [List.length_drop], by rw [List.length_drop]; omega, by omega, fun i L hL => ?_⟩
    rw [List.getElem?_drop] at hL
    obtain ⟨u, k1, k2⟩ := h4 _ L hL
    exact ⟨u, by rw [show o + k + i = o + (k + i) by omega]; exact k1, k2⟩
end Go.Proofs.YtnmcgleanpdlmaaDoor

namespace Go.Proofs.YtnmcgleanpdlmaaDoor
open Go.RowKit
set_option linter.unusedVariables false
theorem protoRes_err {LL : List (List Wd)} {w w' : World} {p n : Nat} (h : parseP LL [] = .error (p, n)) (q : B w w') : ProtoRes LL w (.returned (.tuple #[.slice none 0 0, .slice none 0 0, .int .i64 (p : Int), .int .i64 (n : Int)])) w' := .inr ⟨p, n, h, rfl, q⟩
theorem protoRes_ok {LL : List (List Wd)} {w w' : World} {base : Nat} {S : List Sp} {sv ov : Value} {vs us : List Value} (h : parseP LL [] = .ok S) (hS : StP w' base sv S vs ov (placesP LL) us) (q : B w w') : ProtoRes LL w (.returned (.tuple #[sv, ov, .int .i64 0, .int .i64 0])) w' := .inl ⟨S, sv, ov, h, rfl, hS.isS, hS.isP, q⟩
set_option maxRecDepth 100000 in
set_option maxHeartbeats 600000 in
theorem pparse_any (v : Value) (LL : List (List Wd)) (w : World) (h : IsLnO w v LL) (hL : LL.length ≤ 65536) (hws : ∀ ws ∈ LL, ws.length ≤ 65536) (hlong : ∀ ws ∈ LL, ∀ x ∈ ws, x.2.length ≤ 65536) : Calls Tryd.prog 12 #[v] w (ProtoRes LL w) := by
  obtain ⟨i0, hi0, hz0, hz1, hz2⟩ := info_of stepInfoP
  obtain ⟨i1, hi1, hy0, hy1, hy2⟩ := info_of intsInfoP
  obtain ⟨lo, lc, rfl⟩ := h.form
  obtain ⟨ln, hln⟩ : ∃ ln, LL.length = ln := ⟨_, rfl⟩
  have HI := Lib.hid h
  clear h
  rw [hln]
  obtain ⟨R, hRb⟩ : ∃ R, w.heap.size = R := ⟨_, rfl⟩
  have hRB := Lib.hid hRb
  clear hRb
  go_enter Tryd.func12, Tryd.ntmps12
  go_wp2_with fail
  go_loopw [6, 7, 15] (fun sv ov iv wr => ∃ (i ns np : Nat) (so po : Option Addr) (sc pc : Nat) (S : List Sp) (vs us : List Value), i ≤ ln ∧ iv = .int .i64 i ∧ sv = .slice so ns sc ∧ ov = .slice po np pc ∧ StP wr R (.slice so ns sc) S vs (.slice po np pc) (placesP (LL.take i)) us ∧ S.length = ns ∧ (placesP (LL.take i)).length = np ∧ ns ≤ 200 ∧ parseP LL [] = parseP (LL.drop i) S ∧ B w wr) (fun _ _ iv _ => ln + 1 - (intOf iv).toNat)
  case atStart => exact ⟨0, 0, 0, none, none, 0, 0, [], [], [], Nat.zero_le _, rfl, rfl, rfl, StP.nil _ _, rfl, rfl, by omega, rfl, B.refl _⟩
  case round =>
    obtain ⟨i, ns, np, so, po, sc, pc, S, vs, us, hi, rfl, rfl, rfl, hSt, hSn, hPn, hn2, hpar, q⟩ := hrel
    obtain ⟨wi, rfl⟩ : ∃ wi : World, wi = wr := ⟨_, rfl⟩
    by_cases hl : i < ln
    · have hlB : decide ((i : Int) < (ln : Int)) = true := decide_eq_true (by omega)
      have hlN : decide (i < ln) = true := decide_eq_true hl
      have hlI : (i : Int) < (ln : Int) := by omega
      have hi0' : (0 : Int) ≤ (i : Int) := by omega
      have wk1 : IntKind.i64.wrap ((i : Int) + 1) = (i : Int) + 1 := by rw [IntKind.wrap_i64]; omega
      obtain ⟨X, hX⟩ : ∃ X, LL[i]? = some X := ⟨_, List.getElem?_eq_getElem (by omega)⟩
      have hXm := List.mem_of_getElem? hX
      obtain ⟨g, o, cap, u, hv, hc0, hw0⟩ := HI.out.at_ (i := i) (by omega)
      have hc := q.keep hc0
      rw [show LL[i]'(by omega) = X by rw [List.getElem?_eq_getElem (by omega)] at hX; simpa using hX] at hw0
      have hw := hw0.keep q
      obtain ⟨rfl, _, rfl⟩ : lo = some ⟨g, o, none⟩ ∧ True ∧ lc = cap := by simpa using hv
      clear hv hc0
      cases X with
      | nil =>
        obtain ⟨uo, uc, rfl⟩ := hw.form
        have hpl := placesP_nil hX
        have hpn := parseP_nil (S := S) hX
        have HN := Lib.hid (And.intro hSt (And.intro hSn (And.intro hPn (And.intro hn2 (And.intro (hpar.trans hpn) (And.intro q (And.intro hl hpl)))))))
        clear hpl hpn hpar hSt hSn hPn hn2 q hl hi hX hXm hw hw0
        go_wp2
        go_roundw
        case rel => exact ⟨i + 1, ns, np, so, po, sc, pc, S, vs, us, by have := HN.out.2.2.2.2.2.2.1; omega, by go_num, rfl, rfl, by rw [HN.out.2.2.2.2.2.2.2]; exact HN.out.1, HN.out.2.1, by rw [HN.out.2.2.2.2.2.2.2]; exact HN.out.2.2.1, HN.out.2.2.2.1, HN.out.2.2.2.2.1, HN.out.2.2.2.2.2.1⟩
        case measure => have := HN.out.2.2.2.2.2.2.1; simp [intOf]; omega
      | cons x ws =>
        have hxs := hws _ hXm
        have hxl := hlong _ hXm
        have cR := pread_any u x ws ns hn2 wi hw (by simp at hxs; omega) (fun y hy => hxl y (List.mem_cons_of_mem _ hy))
        have cO := fun w' (qq : B w w') => offsets_any u x ws w' (hw0.keep qq) (by simp at hxs; omega)
        obtain ⟨g2, lc2, rfl, _, _, _, _⟩ := hw.full (by simp)
        obtain ⟨m, hm⟩ : ∃ m, (x :: ws).length = m := ⟨_, rfl⟩
        have hm0 : ((m : Int) == 0) = false := by rw [← hm, List.length_cons, beq_eq_false_iff_ne]; omega
        have h200 : ((ns : Int) == 200) = decide (ns = 200) := by by_cases e : ns = 200 <;> simp [e] <;> omega
        have h200N : (ns == 200) = decide (ns = 200) := by by_cases e : ns = 200 <;> simp [e]
        rw [hm] at cR cO hc
        have hpc := parseP_cons (S := S) hX
        have hpl := placesP_cons hX
        rw [hSn] at hpc
        unfold ReadRes at cR
        generalize hLP : lineP ns (x :: ws) = LP at *
        have HN := Lib.hid (And.intro hSt (And.intro hSn (And.intro hPn (And.intro hn2 (And.intro (hpar.trans hpc) (And.intro q (And.intro hl (And.intro hpl hLP))))))))
        clear hpc hpar hSt hSn hPn hn2 q hl hi hX hXm hw hw0 hpl hxs hxl hLP
        replace hm := Lib.hid hm
        have HM := hm
        clear hm
        go_wp2_with fail
        generalize decide (ns = 200) = FULL at *
        refine (Calls.mono cR ?_)
        clear cR h200 h200N
        rintro e w2 (⟨s, wv, hLe, rfl, hrow, q2⟩ | ⟨p, n, hLe, rfl, q2⟩)
        · subst hLe
          obtain ⟨hns, _⟩ := lineP_had HN.out.2.2.2.2.2.2.2.2
          obtain ⟨K, N, WS, V, M⟩ := s
          simp only at hrow
          obtain ⟨wo, wc, rfl⟩ := own_slice hrow
          obtain ⟨wl, hwl⟩ : ∃ wl, WS.length = wl := ⟨_, rfl⟩
          have q3 : B w2 (w2.alloc (.cells #[.int .i64 K, .string N, .slice wo wl wc, .int .i64 V, .int .i64 M] 27)) := (B.refl _).alloc _ _
          have oS := obj_new w2 (.cells #[.int .i64 K, .string N, .slice wo wl wc, .int .i64 V, .int .i64 M] 27)
          have hb2 := HN.out.2.2.2.2.2.1.trans q2
          have hrow2 := own_lowU (base' := R) hrow (by have := HN.out.2.2.2.2.2.1.below.size; have := hRB.out; omega)
          simp only [hwl] at hrow hrow2 ⊢
          clear hrow
          have q4 : B (w2.alloc (.cells #[.int .i64 K, .string N, .slice wo wl wc, .int .i64 V, .int .i64 M] 27)) ((w2.alloc (.cells #[.int .i64 K, .string N, .slice wo wl wc, .int .i64 V, .int .i64 M] 27)).alloc (.cells #[.int .i64 K, .string N, .slice wo wl wc, .int .i64 V, .int .i64 M] 27)) := (B.refl _).alloc _ _
          have q24 := q3.trans q4
          have hSt1 := (HN.out.1.keep (q2.trans q24))
          have own1 := hSt1.so
          rw [HN.out.2.1] at own1
          have hrow4 := row_keep hrow2 q24
          have hB4 := hb2.trans q24
          have hb1 : R ≤ ((w2.alloc (.cells #[.int .i64 K, .string N, .slice wo wl wc, .int .i64 V, .int .i64 M] 27)).alloc (.cells #[.int .i64 K, .string N, .slice wo wl wc, .int .i64 V, .int .i64 M] 27)).heap.size := by have := hB4.below.size; have := hRB.out; omega
          have HW := Lib.hid (And.intro hSt1 (And.intro hrow4 (And.intro hB4 (And.intro hwl hns))))
          have hns' : ns ≤ 200 := by omega
          clear q4 q24 hSt1 hrow4 hB4 hrow2 hb2 q3 q2 hwl hns oS
          go_wp2_with (at_builtin; refine wpList_append_lies _ rfl _ _ 22 rfl R 27 i0 _ 5 64 Tryd.underlying22 hi0 hz0 hz1 hz2 rfl (by omega) (.slice so ns sc) ns (flatSp S vs) rfl own1 ⟨_, 0, none⟩ 1 1 [.int .i64 K, .string N, .slice wo wl wc, .int .i64 V, .int .i64 M] rfl rfl (newest (by simp)) (fun u hu => by simp only [List.mem_cons, List.not_mem_nil, or_false] at hu; rcases hu with rfl | rfl | rfl | rfl | rfl <;> rfl) (by omega) (by unfold maxLen; omega) (by omega) hb1 _ rfl ?_; intro g1 c1 W4 hown4 hgrow4 hat4 hlt4; have hSt4 := StP.addS (s := ⟨K, N, WS, V, M⟩) HW.out.1 hgrow4 (by rw [HN.out.2.1]; exact hown4) (by rw [HW.out.2.2.2.1]; exact HW.out.2.1); have hB4 := HW.out.2.2.1.grownBy hgrow4 (fun x hx => (by rw [hRB.out]; exact (own1.lt x hx).1)); clear hgrow4 hat4 hlt4 own1 hown4 hb1; have hc5 := cO W4 hB4; replace hSt4 := Lib.hid (And.intro hSt4 hB4); clear hB4 cO; go_wp2_with fail)
          refine (Calls.mono hc5 ?_)
          rintro _ w5 ⟨u5, rfl, hrow5, q5⟩
          obtain ⟨uo, uc, rfl⟩ := own_slice hrow5
          have q6 : B w5 (w5.alloc (.cells #[.slice uo m uc] 94)) := (B.refl _).alloc _ _
          have hSt6 := hSt4.out.1.keep (q5.trans q6)
          have hrow6 := own_lowU (base' := R) (row_keep hrow5 q6) (by have := hSt4.out.2.below.size; have := hRB.out; omega)
          have own6 := hSt6.po
          rw [HN.out.2.2.1] at own6
          have hB6 := hSt4.out.2.trans (q5.trans q6)
          have hb6 : R ≤ (w5.alloc (.cells #[.slice uo m uc] 94)).heap.size := by have := hB6.below.size; have := hRB.out; omega
          have hnp : np ≤ 65536 := by have := HN.out.2.2.1; have := placesP_len (LL.take i); rw [List.length_take] at this; omega
          have HV := Lib.hid (And.intro hSt6 (And.intro hrow6 hB6))
          clear q5 q6 hSt6 hrow6 hB6 hSt4 hrow5 hc5
          go_wp2_with (at_builtin; refine wpList_append_lies _ rfl _ _ 44 rfl R 94 i1 _ 1 24 Tryd.underlying44 hi1 hy0 hy1 hy2 rfl (by omega) (.slice po np pc) np us rfl own6 ⟨_, 0, none⟩ 1 1 [.slice uo m uc] rfl rfl (newest rfl) (fun u hu => by simp at hu; rw [hu]; rfl) (by omega) (by unfold maxLen; omega) (by omega) hb6 _ rfl ?_; intro g3 c3 W7 hown7 hgrow7 hat7 hlt7; have hSt7 := StP.addP (l := (x :: ws).map (·.1)) HV.out.1 hgrow7 (by rw [HN.out.2.2.1]; exact hown7) (by rw [List.length_map, HM.out]; exact HV.out.2.1); have hB7 := HV.out.2.2.grownBy hgrow7 (fun x hx => (by rw [hRB.out]; exact (own6.lt x hx).1)); clear hgrow7 hat7 hlt7 own6 hown7 hb6; replace hSt7 := Lib.hid (And.intro hSt7 hB7); clear hB7; go_wp2_with fail)
          refine ⟨⟨i + 1, ns + 1, np + 1, some ⟨g1, 0, none⟩, some ⟨g3, 0, none⟩, c1, c3, S ++ [⟨K, N, WS, V, M⟩], _, _, by have := HN.out.2.2.2.2.2.2.1; omega, by go_num, rfl, rfl, by rw [HN.out.2.2.2.2.2.2.2.1]; exact hSt7.out.1, by rw [List.length_append, HN.out.2.1]; rfl, by rw [HN.out.2.2.2.2.2.2.2.1, List.length_append, HN.out.2.2.1]; rfl, by have := HW.out.2.2.2.2; omega, HN.out.2.2.2.2.1, hSt7.out.2⟩, ?_⟩
          have := HN.out.2.2.2.2.2.2.1
          simp [intOf]
          omega
        · subst hLe
          have hn0 := lineP_err HN.out.2.2.2.2.2.2.2.2
          have hnB : ((n : Int) != 0) = true := by simp; omega
          have HE : Hid (parseP LL [] = .error (p, n)) := Lib.hid (by rw [HN.out.2.2.2.2.1])
          have HQ := Lib.hid (HN.out.2.2.2.2.2.1.trans q2)
          clear q2 cO hn0
          go_wp2
          try simp only [Exit.inBlock, Exit.then]
          refine bodyPost_ret (results_tmp4 rfl _ _ _) rfl ?_
          exact protoRes_err HE.out (HQ.out.alloc _ _)
    · have hlB : decide ((i : Int) < (ln : Int)) = false := decide_eq_false (by omega)
      have hlN : decide (i < ln) = false := decide_eq_false hl
      rw [List.take_of_length_le (by omega)] at hSt hPn
      rw [List.drop_eq_nil_of_le (by omega)] at hpar
      have HZ := Lib.hid (And.intro hpar (And.intro hSt q))
      clear hpar hSt q hl hi hSn hPn hn2
      go_wp2
      try simp only [Exit.inBlock, Exit.then]
      refine bodyPost_ret (results_tmp4 rfl _ _ _) rfl ?_
      exact protoRes_ok HZ.out.1 HZ.out.2.1 HZ.out.2.2
end Go.Proofs.YtnmcgleanpdlmaaDoor

namespace Go.Proofs.YtnmcgleanpdlmaaDoor
open Go.RowKit
set_option linter.unusedVariables false
theorem rune_letter {r : Int} (h0 : 0 ≤ r) (h8 : r < 8) : Utf8.encode (65 + r) = strB [UInt8.ofNat (65 + r.toNat)] := by
  have : r = 0 ∨ r = 1 ∨ r = 2 ∨ r = 3 ∨ r = 4 ∨ r = 5 ∨ r = 6 ∨ r = 7 := by omega
  rcases this with rfl | rfl | rfl | rfl | rfl | rfl | rfl | rfl <;> rfl
set_option maxHeartbeats 2000000 in
theorem wtext_any (n : ByteArray) (r c : Int) (hr : I64 r) (hc : I64 c) (w : World) : Calls Tryd.prog 58 #[.agg #[.string n, .int .i64 r, .int .i64 c]] w fun e w' => e = .returned (.string (strB (wellT n r c))) ∧ B w w' := by
  have cw := fun w => written_any n r c w
  have u3 : IntKind.i64.wrap r = r := by rw [IntKind.wrap_i64]; unfold I64 at hr; omega
  have u4 : IntKind.i64.wrap c = c := by rw [IntKind.wrap_i64]; unfold I64 at hc; omega
  have q1 := (B.refl w).alloc #[.string n, .int .i64 r, .int .i64 c] 36
  cases hw : wrB n r c
  · have HE : wellT n r c = [] := by
      unfold wellT
      rw [if_neg]
      intro h
      rw [wrB_iff.2 h] at hw
      cases hw
    rw [HE]
    rw [hw] at cw
    clear hw HE
    go_enter Tryd.func58, Tryd.ntmps58
    go_wp2_with fail
    refine (cw _).mono ?_
    rintro _ w2 ⟨rfl, q2⟩
    go_wp2
    go_ret
    exact ⟨rfl, q1.trans q2⟩
  · rw [hw] at cw
    obtain ⟨hn, h0, h8, k0, k12⟩ := wrB_iff.1 hw
    have HE : wellT n r c = n.data.toList ++ [46, UInt8.ofNat (65 + r.toNat)] ++ decI (c + 1) := by unfold wellT; rw [if_pos ⟨hn, by omega, by omega, by omega, by omega⟩]
    have hz : n.size ≤ 1000 := name_size hn
    obtain ⟨k, rfl⟩ := Int.eq_ofNat_of_zero_le (by omega : 0 ≤ c)
    have cd : ∀ w, Calls Tryd.prog 40 #[.int .i64 ((k : Int) + 1)] w fun e w' => e = .returned (.string (decS (k + 1))) ∧ w' = w := fun w => by
      have := Tryd.strconv_Itoa_small (k + 1) (by omega) w
      rw [show (((k + 1 : Nat) : Int)) = (k : Int) + 1 by omega] at this
      exact this
    have v1 := decS_size (n := k + 1) (by omega)
    have hdS : decS (k + 1) = strB (decI ((k : Int) + 1)) := by rw [decS_strB]; rfl
    have wr : IntKind.i64.wrap (65 + r) = 65 + r := by rw [IntKind.wrap_i64]; omega
    have wr32 : IntKind.i32.wrap (65 + r) = 65 + r := by unfold IntKind.wrap; simp [IntKind.bits, IntKind.signed]; omega
    have wc : IntKind.i64.wrap ((k : Int) + 1) = (k : Int) + 1 := by rw [IntKind.wrap_i64]; omega
    have sl := rune_letter h0 h8
    obtain ⟨L, hL⟩ : ∃ L, strB [UInt8.ofNat (65 + r.toNat)] = L := ⟨_, rfl⟩
    have hL1 : L.size = 1 := by rw [← hL]; rfl
    obtain ⟨D, hD⟩ : ∃ D, decS (k + 1) = D := ⟨_, rfl⟩
    rw [hD] at v1 cd hdS
    rw [hL] at sl
    obtain ⟨s1, j1⟩ : ∃ x, n ++ ({ data := #[46] } : ByteArray) = x := ⟨_, rfl⟩
    have n1 : ¬ 9223372036854775807 < n.size + 1 := by omega
    have m1 : ¬ 9223372036854775807 < n.size + ({ data := #[46] } : ByteArray).size := n1
    have z1 : s1.size = n.size + 1 := by rw [← j1, ByteArray.size_append]; rfl
    obtain ⟨s2, j2⟩ : ∃ x, s1 ++ L = x := ⟨_, rfl⟩
    have n2 : ¬ 9223372036854775807 < s1.size + L.size := by omega
    have z2 : s2.size = s1.size + L.size := by rw [← j2, ByteArray.size_append]
    obtain ⟨s3, j3⟩ : ∃ x, s2 ++ D = x := ⟨_, rfl⟩
    have n3 : ¬ 9223372036854775807 < s2.size + D.size := by omega
    have HS : Hid (strB (wellT n r (k : Int)) = s3) := Lib.hid (by
      rw [HE, ← j3, ← j2, ← j1, ← hL, hdS, show n = strB n.data.toList from rfl, show ({ data := #[46] } : ByteArray) = strB [46] from rfl]
      simp only [strB_app]
      congr 1
      simp [strB, List.append_assoc])
    clear HE hz z1 z2 hL1 v1 hL hD hdS hw
    go_enter Tryd.func58, Tryd.ntmps58
    go_wp2_with fail
    refine (cw _).mono ?_
    rintro _ w2 ⟨rfl, q2⟩
    have oR := q2.obj (obj_new w (.cells #[.string n, .int .i64 r, .int .i64 (k : Int)] 36))
    have hB := q1.trans q2
    have p0 : w2.cell? ⟨w.heap.size, 0, none⟩ = some (.string n) := obj_cell oR 0
    have p1 : w2.cell? ⟨w.heap.size, 1, none⟩ = some (.int .i64 r) := obj_cell oR 1
    have p2 : w2.cell? ⟨w.heap.size, 2, none⟩ = some (.int .i64 (k : Int)) := obj_cell oR 2
    go_wp2_with fail
    have HB := Lib.hid hB.drew
    have p0' : w2.drew.cell? ⟨w.heap.size, 0, none⟩ = some (.string n) := p0
    have p1' : w2.drew.cell? ⟨w.heap.size, 1, none⟩ = some (.int .i64 r) := p1
    have p2' : w2.drew.cell? ⟨w.heap.size, 2, none⟩ = some (.int .i64 (k : Int)) := p2
    clear cw q1 q2 oR hB h0 h8 k0 k12
    generalize w.heap.size = H at *
    go_region_with (go_at_call 40; with_reducible refine (cd _).mono ?_; rintro _ _ ⟨rfl, rfl⟩)
    all_goals
      go_wp2
      go_ret
      exact ⟨by rw [HS.out]; rfl, HB.out⟩
end Go.Proofs.YtnmcgleanpdlmaaDoor
