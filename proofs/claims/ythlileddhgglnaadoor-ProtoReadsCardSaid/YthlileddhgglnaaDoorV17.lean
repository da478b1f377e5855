/-
  The code's Parse of protocols; The document's step with one word more; The document's enough, pattern; its names of kinds, one behind the other.
-/
import Derived.Test.YthlileddhgglnaaDoorV1
import Derived.Test.YthlileddhgglnaaDoorV2
import Derived.Test.YthlileddhgglnaaDoorV3
import Derived.Test.YthlileddhgglnaaDoorV4
import Derived.Test.YthlileddhgglnaaDoorV5
import Derived.Test.YthlileddhgglnaaDoorV7
import Derived.Test.YthlileddhgglnaaDoorV10
import Derived.Test.YthlileddhgglnaaDoorV13
import Derived.Test.YthlileddhgglnaaDoorV14
import Derived.Test.YthlileddhgglnaaDoorV15
import Derived.Test.YthlileddhgglnaaDoorV16
namespace Go.Proofs.YthlileddhgglnaaDoor
open Go.RowKit
set_option linter.unusedVariables false
theorem protoRes_err {LL : List (List Wd)} {w w' : World} {p n : Nat} (h : parseP LL [] = .error (p, n)) (q : B w w') : ProtoRes LL w (.returned (.tuple #[.slice none 0 0, .slice none 0 0, .int .i64 (p : Int), .int .i64 (n : Int)])) w' := .inr ⟨p, n, h, rfl, q⟩
theorem protoRes_ok {LL : List (List Wd)} {w w' : World} {base : Nat} {S : List Sp} {sv ov : Value} {vs us : List Value} (h : parseP LL [] = .ok S) (hS : StP w' base sv S vs ov (placesP LL) us) (q : B w w') : ProtoRes LL w (.returned (.tuple #[sv, ov, .int .i64 0, .int .i64 0])) w' := .inl ⟨S, sv, ov, h, rfl, hS.isS, hS.isP, q⟩
set_option maxRecDepth 100000 in
set_option maxHeartbeats 600000 in
theorem pparse_any (v : Value) (LL : List (List Wd)) (w : World) (h : IsLnO w v LL) (hL : LL.length ≤ 65536) (hws : ∀ ws ∈ LL, ws.length ≤ 65536) (hlong : ∀ ws ∈ LL, ∀ x ∈ ws, x.2.length ≤ 65536) : Calls Tryd.prog 16 #[v] w (ProtoRes LL w) := by
  obtain ⟨i0, hi0, hz0, hz1, hz2⟩ := info_of stepInfoP
  obtain ⟨i1, hi1, hy0, hy1, hy2⟩ := info_of intsInfoP
  obtain ⟨lo, lc, rfl⟩ := h.form
  obtain ⟨ln, hln⟩ : ∃ ln, LL.length = ln := ⟨_, rfl⟩
  have HI := Lib.hid h
  clear h
  rw [hln]
  obtain ⟨R, hRb⟩ : ∃ R, w.heap.size = R := ⟨_, rfl⟩
  have hRB := Lib.hid hRb
  clear hRb
  go_enter Tryd.func16, Tryd.ntmps16
  go_wp2_with fail
  go_loopw [6, 7, 15] (fun sv ov iv wr => ∃ (i ns np : Nat) (so po : Option Addr) (sc pc : Nat) (S : List Sp) (vs us : List Value), i ≤ ln ∧ iv = .int .i64 i ∧ sv = .slice so ns sc ∧ ov = .slice po np pc ∧ StP wr R (.slice so ns sc) S vs (.slice po np pc) (placesP (LL.take i)) us ∧ S.length = ns ∧ (placesP (LL.take i)).length = np ∧ ns ≤ 200 ∧ parseP LL [] = parseP (LL.drop i) S ∧ B w wr) (fun _ _ iv _ => ln + 1 - (intOf iv).toNat)
  case atStart => exact ⟨0, 0, 0, none, none, 0, 0, [], [], [], Nat.zero_le _, rfl, rfl, rfl, StP.nil _ _, rfl, rfl, by omega, rfl, B.refl _⟩
  case round =>
    obtain ⟨i, ns, np, so, po, sc, pc, S, vs, us, hi, rfl, rfl, rfl, hSt, hSn, hPn, hn2, hpar, q⟩ := hrel
    obtain ⟨wi, rfl⟩ : ∃ wi : World, wi = wr := ⟨_, rfl⟩
    by_cases hl : i < ln
    · have hlB : decide ((i : Int) < (ln : Int)) = true := decide_eq_true (by omega)
      have hlN : decide (i < ln) = true := decide_eq_true hl
      have hlI : (i : Int) < (ln : Int) := by omega
      have hi0' : (0 : Int) ≤ (i : Int) := by omega
      have wk1 : IntKind.i64.wrap ((i : Int) + 1) = (i : Int) + 1 := by rw [IntKind.wrap_i64]; omega
      obtain ⟨X, hX⟩ : ∃ X, LL[i]? = some X := ⟨_, List.getElem?_eq_getElem (by omega)⟩
      have hXm := List.mem_of_getElem? hX
      obtain ⟨g, o, cap, u, hv, hc0, hw0⟩ := HI.out.at_ (i := i) (by omega)
      have hc := q.keep hc0
      rw [show LL[i]'(by omega) = X by rw [List.getElem?_eq_getElem (by omega)] at hX; simpa using hX] at hw0
      have hw := hw0.keep q
      obtain ⟨rfl, _, rfl⟩ : lo = some ⟨g, o, none⟩ ∧ True ∧ lc = cap := by simpa using hv
      clear hv hc0
      cases X with
      | nil =>
        obtain ⟨uo, uc, rfl⟩ := hw.form
        have hpl := placesP_nil hX
        have hpn := parseP_nil (S := S) hX
        have HN := Lib.hid (And.intro hSt (And.intro hSn (And.intro hPn (And.intro hn2 (And.intro (hpar.trans hpn) (And.intro q (And.intro hl hpl)))))))
        clear hpl hpn hpar hSt hSn hPn hn2 q hl hi hX hXm hw hw0
        go_wp2
        go_roundw
        case rel => exact ⟨i + 1, ns, np, so, po, sc, pc, S, vs, us, by have := HN.out.2.2.2.2.2.2.1; omega, by go_num, rfl, rfl, by rw [HN.out.2.2.2.2.2.2.2]; exact HN.out.1, HN.out.2.1, by rw [HN.out.2.2.2.2.2.2.2]; exact HN.out.2.2.1, HN.out.2.2.2.1, HN.out.2.2.2.2.1, HN.out.2.2.2.2.2.1⟩
        case measure => have := HN.out.2.2.2.2.2.2.1; simp [intOf]; omega
      | cons x ws =>
        have hxs := hws _ hXm
        have hxl := hlong _ hXm
        have cR := pread_any u x ws ns hn2 wi hw (by simp at hxs; omega) (fun y hy => hxl y (List.mem_cons_of_mem _ hy))
        have cO := fun w' (qq : B w w') => offsets_any u x ws w' (hw0.keep qq) (by simp at hxs; omega)
        obtain ⟨g2, lc2, rfl, _, _, _, _⟩ := hw.full (by simp)
        obtain ⟨m, hm⟩ : ∃ m, (x :: ws).length = m := ⟨_, rfl⟩
        have hm0 : ((m : Int) == 0) = false := by rw [← hm, List.length_cons, beq_eq_false_iff_ne]; omega
        have h200 : ((ns : Int) == 200) = decide (ns = 200) := by by_cases e : ns = 200 <;> simp [e] <;> omega
        have h200N : (ns == 200) = decide (ns = 200) := by by_cases e : ns = 200 <;> simp [e]
        rw [hm] at cR cO hc
        have hpc := parseP_cons (S := S) hX
        have hpl := placesP_cons hX
        rw [hSn] at hpc
        unfold ReadRes at cR
        generalize hLP : lineP ns (x :: ws) = LP at *
        have HN := Lib.hid (And.intro hSt (And.intro hSn (And.intro hPn (And.intro hn2 (And.intro (hpar.trans hpc) (And.intro q (And.intro hl (And.intro hpl hLP))))))))
        clear hpc hpar hSt hSn hPn hn2 q hl hi hX hXm hw hw0 hpl hxs hxl hLP
        replace hm := Lib.hid hm
        have HM := hm
        clear hm
        go_wp2_with fail
        generalize decide (ns = 200) = FULL at *
        refine (Calls.mono cR ?_)
        clear cR h200 h200N
        rintro e w2 (⟨s, wv, hLe, rfl, hrow, q2⟩ | ⟨p, n, hLe, rfl, q2⟩)
        · subst hLe
          obtain ⟨hns, _⟩ := lineP_had HN.out.2.2.2.2.2.2.2.2
          obtain ⟨K, N, WS, V, M⟩ := s
          simp only at hrow
          obtain ⟨wo, wc, rfl⟩ := own_slice hrow
          obtain ⟨wl, hwl⟩ : ∃ wl, WS.length = wl := ⟨_, rfl⟩
          have q3 : B w2 (w2.alloc (.cells #[.int .i64 K, .string N, .slice wo wl wc, .int .i64 V, .int .i64 M] 47)) := (B.refl _).alloc _ _
          have oS := obj_new w2 (.cells #[.int .i64 K, .string N, .slice wo wl wc, .int .i64 V, .int .i64 M] 47)
          have hb2 := HN.out.2.2.2.2.2.1.trans q2
          have hrow2 := own_lowU (base' := R) hrow (by have := HN.out.2.2.2.2.2.1.below.size; have := hRB.out; omega)
          simp only [hwl] at hrow hrow2 ⊢
          clear hrow
          have q4 : B (w2.alloc (.cells #[.int .i64 K, .string N, .slice wo wl wc, .int .i64 V, .int .i64 M] 47)) ((w2.alloc (.cells #[.int .i64 K, .string N, .slice wo wl wc, .int .i64 V, .int .i64 M] 47)).alloc (.cells #[.int .i64 K, .string N, .slice wo wl wc, .int .i64 V, .int .i64 M] 47)) := (B.refl _).alloc _ _
          have q24 := q3.trans q4
          have hSt1 := (HN.out.1.keep (q2.trans q24))
          have own1 := hSt1.so
          rw [HN.out.2.1] at own1
          have hrow4 := row_keep hrow2 q24
          have hB4 := hb2.trans q24
          have hb1 : R ≤ ((w2.alloc (.cells #[.int .i64 K, .string N, .slice wo wl wc, .int .i64 V, .int .i64 M] 47)).alloc (.cells #[.int .i64 K, .string N, .slice wo wl wc, .int .i64 V, .int .i64 M] 47)).heap.size := by have := hB4.below.size; have := hRB.out; omega
          have HW := Lib.hid (And.intro hSt1 (And.intro hrow4 (And.intro hB4 (And.intro hwl hns))))
          have hns' : ns ≤ 200 := by omega
          clear q4 q24 hSt1 hrow4 hB4 hrow2 hb2 q3 q2 hwl hns oS
          go_wp2_with (at_builtin; refine wpList_append_lies _ rfl _ _ 30 rfl R 47 i0 _ 5 64 Tryd.underlying30 hi0 hz0 hz1 hz2 rfl (by omega) (.slice so ns sc) ns (flatSp S vs) rfl own1 ⟨_, 0, none⟩ 1 1 [.int .i64 K, .string N, .slice wo wl wc, .int .i64 V, .int .i64 M] rfl rfl (newest (by simp)) (fun u hu => by simp only [List.mem_cons, List.not_mem_nil, or_false] at hu; rcases hu with rfl | rfl | rfl | rfl | rfl <;> rfl) (by omega) (by unfold maxLen; omega) (by omega) hb1 _ rfl ?_; intro g1 c1 W4 hown4 hgrow4 hat4 hlt4; have hSt4 := StP.addS (s := ⟨K, N, WS, V, M⟩) HW.out.1 hgrow4 (by rw [HN.out.2.1]; exact hown4) (by rw [HW.out.2.2.2.1]; exact HW.out.2.1); have hB4 := HW.out.2.2.1.grownBy hgrow4 (fun x hx => (by rw [hRB.out]; exact (own1.lt x hx).1)); clear hgrow4 hat4 hlt4 own1 hown4 hb1; have hc5 := cO W4 hB4; replace hSt4 := Lib.hid (And.intro hSt4 hB4); clear hB4 cO; go_wp2_with fail)
          refine (Calls.mono hc5 ?_)
          rintro _ w5 ⟨u5, rfl, hrow5, q5⟩
          obtain ⟨uo, uc, rfl⟩ := own_slice hrow5
          have q6 : B w5 (w5.alloc (.cells #[.slice uo m uc] 88)) := (B.refl _).alloc _ _
          have hSt6 := hSt4.out.1.keep (q5.trans q6)
          have hrow6 := own_lowU (base' := R) (row_keep hrow5 q6) (by have := hSt4.out.2.below.size; have := hRB.out; omega)
          have own6 := hSt6.po
          rw [HN.out.2.2.1] at own6
          have hB6 := hSt4.out.2.trans (q5.trans q6)
          have hb6 : R ≤ (w5.alloc (.cells #[.slice uo m uc] 88)).heap.size := by have := hB6.below.size; have := hRB.out; omega
          have hnp : np ≤ 65536 := by have := HN.out.2.2.1; have := placesP_len (LL.take i); rw [List.length_take] at this; omega
          have HV := Lib.hid (And.intro hSt6 (And.intro hrow6 hB6))
          clear q5 q6 hSt6 hrow6 hB6 hSt4 hrow5 hc5
          go_wp2_with (at_builtin; refine wpList_append_lies _ rfl _ _ 52 rfl R 88 i1 _ 1 24 Tryd.underlying52 hi1 hy0 hy1 hy2 rfl (by omega) (.slice po np pc) np us rfl own6 ⟨_, 0, none⟩ 1 1 [.slice uo m uc] rfl rfl (newest rfl) (fun u hu => by simp at hu; rw [hu]; rfl) (by omega) (by unfold maxLen; omega) (by omega) hb6 _ rfl ?_; intro g3 c3 W7 hown7 hgrow7 hat7 hlt7; have hSt7 := StP.addP (l := (x :: ws).map (·.1)) HV.out.1 hgrow7 (by rw [HN.out.2.2.1]; exact hown7) (by rw [List.length_map, HM.out]; exact HV.out.2.1); have hB7 := HV.out.2.2.grownBy hgrow7 (fun x hx => (by rw [hRB.out]; exact (own6.lt x hx).1)); clear hgrow7 hat7 hlt7 own6 hown7 hb6; replace hSt7 := Lib.hid (And.intro hSt7 hB7); clear hB7; go_wp2_with fail)
          refine ⟨⟨i + 1, ns + 1, np + 1, some ⟨g1, 0, none⟩, some ⟨g3, 0, none⟩, c1, c3, S ++ [⟨K, N, WS, V, M⟩], _, _, by have := HN.out.2.2.2.2.2.2.1; omega, by go_num, rfl, rfl, by rw [HN.out.2.2.2.2.2.2.2.1]; exact hSt7.out.1, by rw [List.length_append, HN.out.2.1]; rfl, by rw [HN.out.2.2.2.2.2.2.2.1, List.length_append, HN.out.2.2.1]; rfl, by have := HW.out.2.2.2.2; omega, HN.out.2.2.2.2.1, hSt7.out.2⟩, ?_⟩
          have := HN.out.2.2.2.2.2.2.1
          simp [intOf]
          omega
        · subst hLe
          have hn0 := lineP_err HN.out.2.2.2.2.2.2.2.2
          have hnB : ((n : Int) != 0) = true := by simp; omega
          have HE : Hid (parseP LL [] = .error (p, n)) := Lib.hid (by rw [HN.out.2.2.2.2.1])
          have HQ := Lib.hid (HN.out.2.2.2.2.2.1.trans q2)
          clear q2 cO hn0
          go_wp2
          try simp only [Exit.inBlock, Exit.then]
          refine bodyPost_ret (results_tmp4 rfl _ _ _) rfl ?_
          exact protoRes_err HE.out (HQ.out.alloc _ _)
    · have hlB : decide ((i : Int) < (ln : Int)) = false := decide_eq_false (by omega)
      have hlN : decide (i < ln) = false := decide_eq_false hl
      rw [List.take_of_length_le (by omega)] at hSt hPn
      rw [List.drop_eq_nil_of_le (by omega)] at hpar
      have HZ := Lib.hid (And.intro hpar (And.intro hSt q))
      clear hpar hSt q hl hi hSn hPn hn2
      go_wp2
      try simp only [Exit.inBlock, Exit.then]
      refine bodyPost_ret (results_tmp4 rfl _ _ _) rfl ?_
      exact protoRes_ok HZ.out.1 HZ.out.2.1 HZ.out.2.2
end Go.Proofs.YthlileddhgglnaaDoor

namespace Go.Proofs.YthlileddhgglnaaDoor
open Go.RowKit
set_option linter.unusedVariables false
/-- A word's sign in the document's patterns. -/
def codeP (c : Nat) : Int := if c = 0 then 110 else if c = 1 then 102 else if c = 2 then 119 else if c = 3 then 118 else 116
theorem tn_five {K : List (Option TypeId)} {base : Nat} {u w : World} (h : Tn K base u w) {b : Nat} (hb : u.heap.size ≤ b) (x0 x1 x2 x3 x4 : Value) :
    Tn K base u (((((w.setCell ⟨b, 0, none⟩ x0).setCell ⟨b, 1, none⟩ x1).setCell ⟨b, 2, none⟩ x2).setCell ⟨b, 3, none⟩ x3).setCell ⟨b, 4, none⟩ x4) :=
  ((((h.setNew (p := ⟨b, 0, none⟩) hb _).setNew (p := ⟨b, 1, none⟩) hb _).setNew (p := ⟨b, 2, none⟩) hb _).setNew (p := ⟨b, 3, none⟩) hb _).setNew (p := ⟨b, 4, none⟩) hb _
theorem row_five {w : World} {base : Nat} {e : TypeId} {size n : Nat} {v : Value} {xs : List Value} (h : w.ownsRow base e size v n xs) {b : Nat} {cs : Array Value} {t : TypeId} (ho : w.heap[b]? = some (.cells cs t (0, 0))) (ht : t ≠ e) (x0 x1 x2 x3 x4 : Value) :
    (((((w.setCell ⟨b, 0, none⟩ x0).setCell ⟨b, 1, none⟩ x1).setCell ⟨b, 2, none⟩ x2).setCell ⟨b, 3, none⟩ x3).setCell ⟨b, 4, none⟩ x4).ownsRow base e size v n xs :=
  ownsRow_set (ownsRow_set (ownsRow_set (ownsRow_set (ownsRow_set h ho ht 0 x0) (obj_set ho 0 _) ht 1 x1) (obj_set (obj_set ho 0 _) 1 _) ht 2 x2) (obj_set (obj_set (obj_set ho 0 _) 1 _) 2 _) ht 3 x3) (obj_set (obj_set (obj_set (obj_set ho 0 _) 1 _) 2 _) 3 _) ht 4 x4
def WordRes (s : Sp) (c : Nat) (t : List UInt8) (Wb w : World) (e : Ending) (w' : World) : Prop :=
  ∃ (s' : Sp) (wv' : Value), e = .returned (.tuple #[.agg #[.int .i64 s'.k, .string s'.n, wv', .int .i64 s'.v, .int .i64 s'.m], .int .i64 (((takeP s c t).2 : Nat) : Int)]) ∧ w'.ownsRow Wb.heap.size 49 3 wv' s'.w.length (flatWp s'.w) ∧ ((takeP s c t).2 = 0 → s' = (takeP s c t).1) ∧ Tn kWl Wb.heap.size w w'
set_option maxRecDepth 100000 in
set_option maxHeartbeats 4000000 in
theorem r8word_any (Wb w : World) (hB : B Wb w) (s : Sp) (wv : Value) (c : Nat) (hc : c ≤ 4) (t : List UInt8) (ht : t.length ≤ 65536) (hr : w.ownsRow Wb.heap.size 49 3 wv s.w.length (flatWp s.w)) (hl : s.w.length ≤ 1000) :
    Calls Tryd.prog 43 #[.agg #[.int .i64 s.k, .string s.n, wv, .int .i64 s.v, .int .i64 s.m], .int .u8 (codeP c), .string (strB t)] w (WordRes s c t Wb w) := by
  obtain ⟨i0, hi0, hz0, hz1, hz2⟩ := info_of wellInfoP
  obtain ⟨K, N, WS, V, M⟩ := s
  simp only at hr hl ⊢
  obtain ⟨so, sc, rfl⟩ := own_slice hr
  obtain ⟨TS, hTS⟩ : ∃ TS, strB t = TS := ⟨_, rfl⟩
  obtain ⟨wl, hwl⟩ : ∃ wl, WS.length = wl := ⟨_, rfl⟩
  have HR : Hid (w.ownsRow Wb.heap.size 49 3 (.slice so wl sc) WS.length (flatWp WS)) := Lib.hid (by rw [← hwl]; exact hr)
  rw [hwl, hTS]
  rw [hwl] at hl
  have HWL := Lib.hid hwl
  have HB := Lib.hid hB
  have h5 : c = 0 ∨ c = 1 ∨ c = 2 ∨ c = 3 ∨ c = 4 := by omega
  clear hr hB hwl hc
  rcases h5 with rfl | rfl | rfl | rfl | rfl
  · have hT : takeP ⟨K, N, WS, V, M⟩ 0 t = (⟨K, TS, WS, V, M⟩, if nameS TS then 0 else 25) := by rw [← hTS]; rfl
    have c1 := fun w => r8name_any TS w
    generalize nameS TS = ok at *
    rw [show codeP 0 = 110 from rfl]
    clear hTS ht
    cases ok
    · have HT : Hid (takeP ⟨K, N, WS, V, M⟩ 0 t = (⟨K, TS, WS, V, M⟩, 25)) := Lib.hid (by rw [hT]; rfl)
      clear hT
      go_enter Tryd.func43, Tryd.ntmps43
      go_wp2_with fail
      refine (Calls.mono (c1 _) ?_)
      rintro _ w2 ⟨rfl, rfl⟩
      clear c1
      go_wp2
      exact bodyPost_ret (v := .tuple #[.agg #[.int .i64 K, .string TS, .slice so wl sc, .int .i64 V, .int .i64 M], .int .i64 25]) (by simp [results, Tryd.results43, go_sem]) rfl ⟨⟨K, TS, WS, V, M⟩, .slice so wl sc, (by rw [HT.out]; rfl), row_keep HR.out (((B.refl _).alloc _ _).alloc _ _), (fun h => (by rw [HT.out] at h; cases h)), (((B.refl _).alloc _ _).alloc _ _).tn _ _⟩
    · have HT : Hid (takeP ⟨K, N, WS, V, M⟩ 0 t = (⟨K, TS, WS, V, M⟩, 0)) := Lib.hid (by rw [hT]; rfl)
      clear hT
      go_enter Tryd.func43, Tryd.ntmps43
      go_wp2_with fail
      refine (Calls.mono (c1 _) ?_)
      rintro _ w2 ⟨rfl, rfl⟩
      clear c1
      go_wp2
      exact bodyPost_ret (v := .tuple #[.agg #[.int .i64 K, .string TS, .slice so wl sc, .int .i64 V, .int .i64 M], .int .i64 0]) (by simp [results, Tryd.results43, go_sem]) rfl ⟨⟨K, TS, WS, V, M⟩, .slice so wl sc, (by rw [HT.out]; rfl), row_keep HR.out (((B.refl _).alloc _ _).alloc _ _), (fun h => (by rw [HT.out])), (((B.refl _).alloc _ _).alloc _ _).tn _ _⟩
  · rw [show codeP 1 = 102 from rfl]
    by_cases hk : t = kEach
    · have e1 : (TS.toList == [101, 97, 99, 104]) = true := by rw [← hTS, strB_lst, hk]; rfl
      have HT : Hid (takeP ⟨K, N, WS, V, M⟩ 1 t = (⟨K, N, WS, V, 1⟩, 0)) := Lib.hid (by show (if t = kEach then _ else _, 0) = _; rw [if_pos hk])
      clear hTS hk ht
      go_enter Tryd.func43, Tryd.ntmps43
      go_wp2
      exact bodyPost_ret (v := .tuple #[.agg #[.int .i64 K, .string N, .slice so wl sc, .int .i64 V, .int .i64 1], .int .i64 0]) (by simp [results, Tryd.results43, go_sem]) rfl ⟨⟨K, N, WS, V, 1⟩, .slice so wl sc, (by rw [HT.out]; rfl), row_keep HR.out (((B.refl _).alloc _ _).alloc _ _), (fun h => (by rw [HT.out])), (((B.refl _).alloc _ _).alloc _ _).tn _ _⟩
    · have e1 : (TS.toList == [101, 97, 99, 104]) = false := by rw [← hTS, strB_lst, beq_eq_false_iff_ne]; exact hk
      have HT : Hid (takeP ⟨K, N, WS, V, M⟩ 1 t = (⟨K, N, WS, V, M⟩, 0)) := Lib.hid (by show (if t = kEach then _ else _, 0) = _; rw [if_neg hk])
      clear hTS hk ht
      go_enter Tryd.func43, Tryd.ntmps43
      go_wp2
      exact bodyPost_ret (v := .tuple #[.agg #[.int .i64 K, .string N, .slice so wl sc, .int .i64 V, .int .i64 M], .int .i64 0]) (by simp [results, Tryd.results43, go_sem]) rfl ⟨⟨K, N, WS, V, M⟩, .slice so wl sc, (by rw [HT.out]; rfl), row_keep HR.out (((B.refl _).alloc _ _).alloc _ _), (fun h => (by rw [HT.out])), (((B.refl _).alloc _ _).alloc _ _).tn _ _⟩
  · rw [show codeP 2 = 119 from rfl]
    have q0 : B w ((w.alloc (.cells #[.int .i64 K, .string N, .slice so wl sc, .int .i64 V, .int .i64 M] 47)).alloc (.cells #[.int .i64 0, .string ⟨#[]⟩, .slice none 0 0, .int .i64 0, .int .i64 0] 47)) := ((B.refl _).alloc _ _).alloc _ _
    have oS := obj_past (obj_new w (.cells #[.int .i64 K, .string N, .slice so wl sc, .int .i64 V, .int .i64 M] 47)) (.cells #[.int .i64 0, .string ⟨#[]⟩, .slice none 0 0, .int .i64 0, .int .i64 0] 47)
    have oR := obj_new (w.alloc (.cells #[.int .i64 K, .string N, .slice so wl sc, .int .i64 V, .int .i64 M] 47)) (.cells #[.int .i64 0, .string ⟨#[]⟩, .slice none 0 0, .int .i64 0, .int .i64 0] 47)
    rw [show (w.alloc (.cells #[.int .i64 K, .string N, .slice so wl sc, .int .i64 V, .int .i64 M] 47)).heap.size = w.heap.size + 1 by simp] at oR
    have c1 := r8well_any t ((w.alloc (.cells #[.int .i64 K, .string N, .slice so wl sc, .int .i64 V, .int .i64 M] 47)).alloc (.cells #[.int .i64 0, .string ⟨#[]⟩, .slice none 0 0, .int .i64 0, .int .i64 0] 47)) ht
    rw [hTS] at c1
    have hSR : ¬ w.heap.size = w.heap.size + 1 := by omega
    have hRS : ¬ w.heap.size + 1 = w.heap.size := by omega
    have hRw' : w.heap.size < w.heap.size + 1 := by omega
    clear hTS ht
    go_enter Tryd.func43, Tryd.ntmps43
    go_wp2_with fail
    generalize ((w.alloc (.cells #[.int .i64 K, .string N, .slice so wl sc, .int .i64 V, .int .i64 M] 47)).alloc (.cells #[.int .i64 0, .string ⟨#[]⟩, .slice none 0 0, .int .i64 0, .int .i64 0] 47)) = W0 at *
    generalize hRb : w.heap.size + 1 = R at *
    obtain ⟨S, hSb⟩ : ∃ S, w.heap.size = S := ⟨_, rfl⟩
    rw [hSb] at oS hSR hRS ⊢
    have hRw : w.heap.size < R := hRw'
    have HSb := Lib.hid hSb
    clear hRw' hRb hSb
    refine (Calls.mono c1 ?_)
    clear c1
    rintro e w1 (⟨wn, wr, wc, hwl9, rfl, q1⟩ | ⟨hwl9, rfl, q1⟩)
    · have HT : Hid (takeP ⟨K, N, WS, V, M⟩ 2 t = (⟨K, N, WS ++ [⟨strB wn, (wr : Int), (wc : Int)⟩], V, M⟩, 0)) := Lib.hid (by show (match wellL t with | some (n, r, q) => _ | none => _) = _; rw [hwl9])
      have q2 : B w ((w1.alloc (.cells #[.string (strB wn), .int .i64 (wr : Int), .int .i64 (wc : Int)] 49)).alloc (.cells #[.string (strB wn), .int .i64 (wr : Int), .int .i64 (wc : Int)] 49)) := ((q0.trans q1).alloc _ _).alloc _ _
      have q12 : B w1 ((w1.alloc (.cells #[.string (strB wn), .int .i64 (wr : Int), .int .i64 (wc : Int)] 49)).alloc (.cells #[.string (strB wn), .int .i64 (wr : Int), .int .i64 (wc : Int)] 49)) := ((B.refl _).alloc _ _).alloc _ _
      have oS2 := q12.obj (q1.obj oS)
      have oR2 := q12.obj (q1.obj oR)
      have oS1 := ((B.refl w1).alloc #[.string (strB wn), .int .i64 (wr : Int), .int .i64 (wc : Int)] 49).obj (q1.obj oS)
      have x2 : (w1.alloc (.cells #[.string (strB wn), .int .i64 (wr : Int), .int .i64 (wc : Int)] 49)).cell? ⟨S, 2, none⟩ = some (.slice so wl sc) := obj_cell oS1 2
      have hSw : S < w1.heap.size := obj_lt (q1.obj oS)
      have hSn : ¬ S = w1.heap.size := by omega
      have hSm : ¬ w1.heap.size = S := by omega
      have own2 := row_keep HR.out q2
      rw [HWL.out] at own2
      have hb2 : Wb.heap.size ≤ ((w1.alloc (.cells #[.string (strB wn), .int .i64 (wr : Int), .int .i64 (wc : Int)] 49)).alloc (.cells #[.string (strB wn), .int .i64 (wr : Int), .int .i64 (wc : Int)] 49)).heap.size := by have := q2.below.size; have := HB.out.below.size; omega
      have HX := Lib.hid (And.intro q2 (And.intro oS2 oR2))
      clear q2 q12 oS2 oR2 q0 oS oR q1 hwl9 oS1
      go_wp2_with (at_builtin; refine wpList_append_lies _ rfl _ _ 45 rfl Wb.heap.size 49 i0 _ 3 32 Tryd.underlying45 hi0 hz0 hz1 hz2 rfl (by omega) (.slice so wl sc) wl (flatWp WS) rfl own2 ⟨_, 0, none⟩ 1 1 [.string (strB wn), .int .i64 (wr : Int), .int .i64 (wc : Int)] rfl rfl (newest (by simp)) (fun u hu => by simp only [List.mem_cons, List.not_mem_nil, or_false] at hu; rcases hu with rfl | rfl | rfl <;> rfl) (by omega) (by unfold maxLen; omega) (by omega) hb2 _ rfl ?_; intro gN cN W9 hown9 hgrow9 hat9 hlt9; have oS9 := obj_grown hgrow9 HX.out.2.1 (far_ownU HX.out.2.1 own2 (by decide)); have oR9 := obj_grown hgrow9 HX.out.2.2 (far_ownU HX.out.2.2 own2 (by decide)); have T9 : Tn kWl Wb.heap.size w W9 := Tn.appended (HX.out.1.tn _ _) own2 hgrow9 (Nat.le_refl _) (by decide); clear hgrow9 hat9 hlt9 own2 hb2 x2; have s0 := obj_cell oS9 0; have s1 := obj_cell oS9 1; have s2 := obj_cell oS9 2; have s3 := obj_cell oS9 3; have s4 := obj_cell oS9 4; have sf := obj_free oS9 2; have r0 := obj_cell oR9 0; have r1 := obj_cell oR9 1; have r2 := obj_cell oR9 2; have r3 := obj_cell oR9 3; have r4 := obj_cell oR9 4; have g0 := obj_free oR9 0; have g1 := obj_free oR9 1; have g2 := obj_free oR9 2; have g3 := obj_free oR9 3; have g4 := obj_free oR9 4; simp only [List.getElem?_toArray, List.getElem?_cons_zero, List.getElem?_cons_succ] at s0 s1 s2 s3 s4 r0 r1 r2 r3 r4; go_wp2_with fail)
      have hN : W9.ownsRow Wb.heap.size 49 3 (.slice (some ⟨gN, 0, none⟩) (wl + 1) cN) (WS ++ [(⟨strB wn, (wr : Int), (wc : Int)⟩ : Wp)]).length (flatWp (WS ++ [⟨strB wn, (wr : Int), (wc : Int)⟩])) := by
        rw [flatWp_snoc, List.length_append, HWL.out]
        exact hown9
      have T1 : Tn kWl Wb.heap.size w (W9.setCell ⟨S, 2, none⟩ (.slice (some ⟨gN, 0, none⟩) (wl + 1) cN)) := T9.setNew (p := ⟨S, 2, none⟩) (Nat.le_of_eq HSb.out) _
      have hN1 := ownsRow_set hN oS9 (by decide) 2 (.slice (some ⟨gN, 0, none⟩) (wl + 1) cN)
      have oR1 : (W9.setCell ⟨S, 2, none⟩ (.slice (some ⟨gN, 0, none⟩) (wl + 1) cN)).heap[R]? = some (.cells #[.int .i64 0, .string ⟨#[]⟩, .slice none 0 0, .int .i64 0, .int .i64 0] 47 (0, 0)) := (Below.heap_setCell W9 ⟨S, 2, none⟩ _ R hRS).trans oR9
      generalize W9.setCell ⟨S, 2, none⟩ (.slice (some ⟨gN, 0, none⟩) (wl + 1) cN) = W1 at *
      clear s0 s1 s2 s3 s4 sf r0 r1 r2 r3 r4 g0 g1 g2 g3 g4 oS9 oR9 T9 hN hown9
      have ob6 := obj_five oR1 (.int .i64 K) (.string N) (.slice (some ⟨gN, 0, none⟩) (wl + 1) cN) (.int .i64 V) (.int .i64 M)
      have HR6 := Lib.hid (row_five hN1 oR1 (by decide) (.int .i64 K) (.string N) (.slice (some ⟨gN, 0, none⟩) (wl + 1) cN) (.int .i64 V) (.int .i64 M))
      have T6 := tn_five T1 (Nat.le_of_lt hRw) (.int .i64 K) (.string N) (.slice (some ⟨gN, 0, none⟩) (wl + 1) cN) (.int .i64 V) (.int .i64 M)
      generalize (((((W1.setCell ⟨R, 0, none⟩ (.int .i64 K)).setCell ⟨R, 1, none⟩ (.string N)).setCell ⟨R, 2, none⟩ (.slice (some ⟨gN, 0, none⟩) (wl + 1) cN)).setCell ⟨R, 3, none⟩ (.int .i64 V)).setCell ⟨R, 4, none⟩ (.int .i64 M)) = W6 at *
      have d0 := obj_cell ob6 0
      have d1 := obj_cell ob6 1
      have d2 := obj_cell ob6 2
      have d3 := obj_cell ob6 3
      have d4 := obj_cell ob6 4
      simp only [List.getElem?_toArray, List.getElem?_cons_zero, List.getElem?_cons_succ] at d0 d1 d2 d3 d4
      exact bodyPost_ret (v := .tuple #[.agg #[.int .i64 K, .string N, .slice (some ⟨gN, 0, none⟩) (wl + 1) cN, .int .i64 V, .int .i64 M], .int .i64 0]) (by simp [results, Tryd.results43, go_sem, d0, d1, d2, d3, d4]) rfl ⟨⟨K, N, WS ++ [⟨strB wn, (wr : Int), (wc : Int)⟩], V, M⟩, .slice (some ⟨gN, 0, none⟩) (wl + 1) cN, (by rw [HT.out]; rfl), HR6.out, (fun h => (by rw [HT.out])), T6⟩
    · have HT : Hid (takeP ⟨K, N, WS, V, M⟩ 2 t = (⟨K, N, WS, V, M⟩, 26)) := Lib.hid (by show (match wellL t with | some (n, r, q) => _ | none => _) = _; rw [hwl9])
      have q2 : B w w1 := q0.trans q1
      have oS2 := q1.obj oS
      have oR2 := q1.obj oR
      have hSw : S < w1.heap.size := obj_lt oS2
      have hSn : ¬ S = w1.heap.size := by omega
      have hSm : ¬ w1.heap.size = S := by omega
      have hRw1 : R < w1.heap.size := obj_lt oR2
      have hRn : ¬ R = w1.heap.size := by omega
      have hRm : ¬ w1.heap.size = R := by omega
      have T9 : Tn kWl Wb.heap.size w w1 := q2.tn _ _
      have hN := row_keep HR.out q2
      have s0 := obj_cell oS2 0
      have sf0 := obj_free oS2 0
      have s1 := obj_cell oS2 1
      have sf1 := obj_free oS2 1
      have s2 := obj_cell oS2 2
      have sf2 := obj_free oS2 2
      have s3 := obj_cell oS2 3
      have sf3 := obj_free oS2 3
      have s4 := obj_cell oS2 4
      have sf4 := obj_free oS2 4
      simp only [List.getElem?_toArray, List.getElem?_cons_zero, List.getElem?_cons_succ] at s0 s1 s2 s3 s4
      have r0 := obj_cell oR2 0
      have g0 := obj_free oR2 0
      have r1 := obj_cell oR2 1
      have g1 := obj_free oR2 1
      have r2 := obj_cell oR2 2
      have g2 := obj_free oR2 2
      have r3 := obj_cell oR2 3
      have g3 := obj_free oR2 3
      have r4 := obj_cell oR2 4
      have g4 := obj_free oR2 4
      simp only [List.getElem?_toArray, List.getElem?_cons_zero, List.getElem?_cons_succ] at r0 r1 r2 r3 r4
      clear q0 oS oR q1 hwl9 q2 oS2
      go_wp2_with fail
      have ob6 := obj_five oR2 (.int .i64 K) (.string N) (.slice so wl sc) (.int .i64 V) (.int .i64 M)
      have HR6 := Lib.hid (row_five hN oR2 (by decide) (.int .i64 K) (.string N) (.slice so wl sc) (.int .i64 V) (.int .i64 M))
      have T6 := tn_five T9 (Nat.le_of_lt hRw) (.int .i64 K) (.string N) (.slice so wl sc) (.int .i64 V) (.int .i64 M)
      generalize (((((w1.setCell ⟨R, 0, none⟩ (.int .i64 K)).setCell ⟨R, 1, none⟩ (.string N)).setCell ⟨R, 2, none⟩ (.slice so wl sc)).setCell ⟨R, 3, none⟩ (.int .i64 V)).setCell ⟨R, 4, none⟩ (.int .i64 M)) = W6 at *
      have oZ := ((B.refl W6).alloc #[.string ⟨#[]⟩, .int .i64 0, .int .i64 0] 49).obj ob6
      have d0 := obj_cell oZ 0
      have d1 := obj_cell oZ 1
      have d2 := obj_cell oZ 2
      have d3 := obj_cell oZ 3
      have d4 := obj_cell oZ 4
      simp only [List.getElem?_toArray, List.getElem?_cons_zero, List.getElem?_cons_succ] at d0 d1 d2 d3 d4
      exact bodyPost_ret (v := .tuple #[.agg #[.int .i64 K, .string N, .slice so wl sc, .int .i64 V, .int .i64 M], .int .i64 26]) (by simp [results, Tryd.results43, go_sem, d0, d1, d2, d3, d4]) rfl ⟨⟨K, N, WS, V, M⟩, .slice so wl sc, (by rw [HT.out]; rfl), row_keep HR6.out ((B.refl _).alloc _ _), (fun h => (by rw [HT.out] at h; cases h)), T6.alloc _ _⟩
  · have hT : takeP ⟨K, N, WS, V, M⟩ 3 t = if numP 20000000 t then (⟨K, N, WS, ((numV TS : Nat) : Int), M⟩, 0) else (⟨K, N, WS, V, M⟩, 20) := by rw [← hTS]; rfl
    have hnp : numP 20000000 t = (numOk TS && (decide (1 ≤ numV TS) && decide (numV TS ≤ 20000000))) := by unfold numP; rw [hTS, Bool.and_assoc]
    rw [hnp] at hT
    have c1 := fun w => r8number_any TS w
    have c2 := fun w => r8in_any ((numV TS : Nat) : Int) 1 20000000 w
    have e9 : inB ((numV TS : Nat) : Int) 1 20000000 = (decide (1 ≤ numV TS) && decide (numV TS ≤ 20000000)) := by
      unfold inB
      congr 1
      · by_cases h : 1 ≤ numV TS <;> simp [h] <;> omega
      · by_cases h : numV TS ≤ 20000000 <;> simp [h] <;> omega
    rw [e9] at c2
    generalize (decide (1 ≤ numV TS) && decide (numV TS ≤ 20000000)) = inq at *
    generalize numOk TS = ok at *
    generalize numV TS = NV at *
    rw [show codeP 3 = 118 from rfl]
    clear hTS hnp e9 ht
    cases ok
    · have HT : Hid (takeP ⟨K, N, WS, V, M⟩ 3 t = (⟨K, N, WS, V, M⟩, 20)) := Lib.hid (by rw [hT]; rfl)
      clear hT c2
      go_enter Tryd.func43, Tryd.ntmps43
      go_wp2_with fail
      refine (Calls.mono (c1 _) ?_)
      rintro _ w2 ⟨rfl, rfl⟩
      clear c1
      go_wp2
      exact bodyPost_ret (v := .tuple #[.agg #[.int .i64 K, .string N, .slice so wl sc, .int .i64 V, .int .i64 M], .int .i64 20]) (by simp [results, Tryd.results43, go_sem]) rfl ⟨⟨K, N, WS, V, M⟩, .slice so wl sc, (by rw [HT.out]; rfl), row_keep HR.out (((B.refl _).alloc _ _).alloc _ _), (fun h => (by rw [HT.out] at h; cases h)), (((B.refl _).alloc _ _).alloc _ _).tn _ _⟩
    · cases inq
      · have HT : Hid (takeP ⟨K, N, WS, V, M⟩ 3 t = (⟨K, N, WS, V, M⟩, 20)) := Lib.hid (by rw [hT]; rfl)
        clear hT
        go_enter Tryd.func43, Tryd.ntmps43
        go_wp2_with fail
        refine (Calls.mono (c1 _) ?_)
        rintro _ w2 ⟨rfl, rfl⟩
        clear c1
        go_wp2_with fail
        refine (Calls.mono (c2 _) ?_)
        rintro _ w3 ⟨rfl, rfl⟩
        clear c2
        go_wp2
        exact bodyPost_ret (v := .tuple #[.agg #[.int .i64 K, .string N, .slice so wl sc, .int .i64 V, .int .i64 M], .int .i64 20]) (by simp [results, Tryd.results43, go_sem]) rfl ⟨⟨K, N, WS, V, M⟩, .slice so wl sc, (by rw [HT.out]; rfl), row_keep HR.out (((B.refl _).alloc _ _).alloc _ _), (fun h => (by rw [HT.out] at h; cases h)), (((B.refl _).alloc _ _).alloc _ _).tn _ _⟩
      · have HT : Hid (takeP ⟨K, N, WS, V, M⟩ 3 t = (⟨K, N, WS, (NV : Int), M⟩, 0)) := Lib.hid (by rw [hT]; rfl)
        clear hT
        go_enter Tryd.func43, Tryd.ntmps43
        go_wp2_with fail
        refine (Calls.mono (c1 _) ?_)
        rintro _ w2 ⟨rfl, rfl⟩
        clear c1
        go_wp2_with fail
        refine (Calls.mono (c2 _) ?_)
        rintro _ w3 ⟨rfl, rfl⟩
        clear c2
        go_wp2
        exact bodyPost_ret (v := .tuple #[.agg #[.int .i64 K, .string N, .slice so wl sc, .int .i64 (NV : Int), .int .i64 M], .int .i64 0]) (by simp [results, Tryd.results43, go_sem]) rfl ⟨⟨K, N, WS, (NV : Int), M⟩, .slice so wl sc, (by rw [HT.out]; rfl), row_keep HR.out (((B.refl _).alloc _ _).alloc _ _), (fun h => (by rw [HT.out])), (((B.refl _).alloc _ _).alloc _ _).tn _ _⟩
  · have hT : takeP ⟨K, N, WS, V, M⟩ 4 t = if numP 20 t then (⟨K, N, WS, V, ((numV TS : Nat) : Int)⟩, 0) else (⟨K, N, WS, V, M⟩, 20) := by rw [← hTS]; rfl
    have hnp : numP 20 t = (numOk TS && (decide (1 ≤ numV TS) && decide (numV TS ≤ 20))) := by unfold numP; rw [hTS, Bool.and_assoc]
    rw [hnp] at hT
    have c1 := fun w => r8number_any TS w
    have c2 := fun w => r8in_any ((numV TS : Nat) : Int) 1 20 w
    have e9 : inB ((numV TS : Nat) : Int) 1 20 = (decide (1 ≤ numV TS) && decide (numV TS ≤ 20)) := by
      unfold inB
      congr 1
      · by_cases h : 1 ≤ numV TS <;> simp [h] <;> omega
      · by_cases h : numV TS ≤ 20 <;> simp [h] <;> omega
    rw [e9] at c2
    generalize (decide (1 ≤ numV TS) && decide (numV TS ≤ 20)) = inq at *
    generalize numOk TS = ok at *
    generalize numV TS = NV at *
    rw [show codeP 4 = 116 from rfl]
    clear hTS hnp e9 ht
    cases ok
    · have HT : Hid (takeP ⟨K, N, WS, V, M⟩ 4 t = (⟨K, N, WS, V, M⟩, 20)) := Lib.hid (by rw [hT]; rfl)
      clear hT c2
      go_enter Tryd.func43, Tryd.ntmps43
      go_wp2_with fail
      refine (Calls.mono (c1 _) ?_)
      rintro _ w2 ⟨rfl, rfl⟩
      clear c1
      go_wp2
      exact bodyPost_ret (v := .tuple #[.agg #[.int .i64 K, .string N, .slice so wl sc, .int .i64 V, .int .i64 M], .int .i64 20]) (by simp [results, Tryd.results43, go_sem]) rfl ⟨⟨K, N, WS, V, M⟩, .slice so wl sc, (by rw [HT.out]; rfl), row_keep HR.out (((B.refl _).alloc _ _).alloc _ _), (fun h => (by rw [HT.out] at h; cases h)), (((B.refl _).alloc _ _).alloc _ _).tn _ _⟩
    · cases inq
      · have HT : Hid (takeP ⟨K, N, WS, V, M⟩ 4 t = (⟨K, N, WS, V, M⟩, 20)) := Lib.hid (by rw [hT]; rfl)
        clear hT
        go_enter Tryd.func43, Tryd.ntmps43
        go_wp2_with fail
        refine (Calls.mono (c1 _) ?_)
        rintro _ w2 ⟨rfl, rfl⟩
        clear c1
        go_wp2_with fail
        refine (Calls.mono (c2 _) ?_)
        rintro _ w3 ⟨rfl, rfl⟩
        clear c2
        go_wp2
        exact bodyPost_ret (v := .tuple #[.agg #[.int .i64 K, .string N, .slice so wl sc, .int .i64 V, .int .i64 M], .int .i64 20]) (by simp [results, Tryd.results43, go_sem]) rfl ⟨⟨K, N, WS, V, M⟩, .slice so wl sc, (by rw [HT.out]; rfl), row_keep HR.out (((B.refl _).alloc _ _).alloc _ _), (fun h => (by rw [HT.out] at h; cases h)), (((B.refl _).alloc _ _).alloc _ _).tn _ _⟩
      · have HT : Hid (takeP ⟨K, N, WS, V, M⟩ 4 t = (⟨K, N, WS, V, (NV : Int)⟩, 0)) := Lib.hid (by rw [hT]; rfl)
        clear hT
        go_enter Tryd.func43, Tryd.ntmps43
        go_wp2_with fail
        refine (Calls.mono (c1 _) ?_)
        rintro _ w2 ⟨rfl, rfl⟩
        clear c1
        go_wp2_with fail
        refine (Calls.mono (c2 _) ?_)
        rintro _ w3 ⟨rfl, rfl⟩
        clear c2
        go_wp2
        exact bodyPost_ret (v := .tuple #[.agg #[.int .i64 K, .string N, .slice so wl sc, .int .i64 V, .int .i64 (NV : Int)], .int .i64 0]) (by simp [results, Tryd.results43, go_sem]) rfl ⟨⟨K, N, WS, V, (NV : Int)⟩, .slice so wl sc, (by rw [HT.out]; rfl), row_keep HR.out (((B.refl _).alloc _ _).alloc _ _), (fun h => (by rw [HT.out])), (((B.refl _).alloc _ _).alloc _ _).tn _ _⟩
end Go.Proofs.YthlileddhgglnaaDoor

namespace Go.Proofs.YthlileddhgglnaaDoor
open Go.RowKit
set_option linter.unusedVariables false
set_option maxHeartbeats 1600000 in
theorem enough_any (k n : Nat) (hk : k ≤ 6) (w : World) : Calls Tryd.prog 41 #[.int .i64 (k : Int), .int .i64 (n : Int)] w fun x w' => x = .returned (.bool (enoughP k n)) ∧ w = w' := by
  have hk7 : k = 0 ∨ k = 1 ∨ k = 2 ∨ k = 3 ∨ k = 4 ∨ k = 5 ∨ k = 6 := by omega
  rcases hk7 with rfl | rfl | rfl | rfl | rfl | rfl | rfl
  · by_cases e2 : n = 2
    · subst e2
      go_enter Tryd.func41, Tryd.ntmps41
      go_wp2
      go_ret
      exact ⟨rfl, rfl⟩
    · have HR := Lib.hid (show enoughP 0 n = false by unfold enoughP; simp [e2])
      have b2 : ((n : Int) == 2) = false := by simp; omega
      clear e2
      go_enter Tryd.func41, Tryd.ntmps41
      go_wp2
      go_ret
      exact ⟨by rw [HR.out]; rfl, rfl⟩
  · by_cases e2 : n = 2
    · subst e2
      go_enter Tryd.func41, Tryd.ntmps41
      go_wp2
      go_ret
      exact ⟨rfl, rfl⟩
    · have HR := Lib.hid (show enoughP 1 n = false by unfold enoughP; simp [e2])
      have b2 : ((n : Int) == 2) = false := by simp; omega
      clear e2
      go_enter Tryd.func41, Tryd.ntmps41
      go_wp2
      go_ret
      exact ⟨by rw [HR.out]; rfl, rfl⟩
  · by_cases e2 : n = 4
    · subst e2
      go_enter Tryd.func41, Tryd.ntmps41
      go_wp2
      go_ret
      exact ⟨rfl, rfl⟩
    · have HR := Lib.hid (show enoughP 2 n = false by unfold enoughP; simp [e2])
      have b2 : ((n : Int) == 4) = false := by simp; omega
      clear e2
      go_enter Tryd.func41, Tryd.ntmps41
      go_wp2
      go_ret
      exact ⟨by rw [HR.out]; rfl, rfl⟩
  · by_cases e2 : 4 ≤ n
    · have HR := Lib.hid (show enoughP 3 n = true by unfold enoughP; simp [e2])
      have b2 : decide ((4 : Int) ≤ (n : Int)) = true := decide_eq_true (by omega)
      have b3 : decide (4 ≤ n) = true := decide_eq_true e2
      clear e2
      go_enter Tryd.func41, Tryd.ntmps41
      go_wp2
      go_ret
      exact ⟨by rw [HR.out]; rfl, rfl⟩
    · have HR := Lib.hid (show enoughP 3 n = false by unfold enoughP; simp [e2])
      have b2 : decide ((4 : Int) ≤ (n : Int)) = false := decide_eq_false (by omega)
      have b3 : decide (4 ≤ n) = false := decide_eq_false e2
      clear e2
      go_enter Tryd.func41, Tryd.ntmps41
      go_wp2
      go_ret
      exact ⟨by rw [HR.out]; rfl, rfl⟩
  · by_cases e2 : 4 ≤ n
    · have HR := Lib.hid (show enoughP 4 n = true by unfold enoughP; simp [e2])
      have b2 : decide ((4 : Int) ≤ (n : Int)) = true := decide_eq_true (by omega)
      have b3 : decide (4 ≤ n) = true := decide_eq_true e2
      clear e2
      go_enter Tryd.func41, Tryd.ntmps41
      go_wp2
      go_ret
      exact ⟨by rw [HR.out]; rfl, rfl⟩
    · have HR := Lib.hid (show enoughP 4 n = false by unfold enoughP; simp [e2])
      have b2 : decide ((4 : Int) ≤ (n : Int)) = false := decide_eq_false (by omega)
      have b3 : decide (4 ≤ n) = false := decide_eq_false e2
      clear e2
      go_enter Tryd.func41, Tryd.ntmps41
      go_wp2
      go_ret
      exact ⟨by rw [HR.out]; rfl, rfl⟩
  · by_cases e2 : n = 4
    · subst e2
      go_enter Tryd.func41, Tryd.ntmps41
      go_wp2
      go_ret
      exact ⟨rfl, rfl⟩
    · have HR := Lib.hid (show enoughP 5 n = false by unfold enoughP; simp [e2])
      have b2 : ((n : Int) == 4) = false := by simp; omega
      clear e2
      go_enter Tryd.func41, Tryd.ntmps41
      go_wp2
      go_ret
      exact ⟨by rw [HR.out]; rfl, rfl⟩
  · by_cases e2 : 4 ≤ n
    · have HR := Lib.hid (show enoughP 6 n = true by unfold enoughP; simp [e2])
      have b2 : decide ((4 : Int) ≤ (n : Int)) = true := decide_eq_true (by omega)
      have b3 : decide (4 ≤ n) = true := decide_eq_true e2
      clear e2
      go_enter Tryd.func41, Tryd.ntmps41
      go_wp2
      go_ret
      exact ⟨by rw [HR.out]; rfl, rfl⟩
    · have HR := Lib.hid (show enoughP 6 n = false by unfold enoughP; simp [e2])
      have b2 : decide ((4 : Int) ≤ (n : Int)) = false := decide_eq_false (by omega)
      have b3 : decide (4 ≤ n) = false := decide_eq_false e2
      clear e2
      go_enter Tryd.func41, Tryd.ntmps41
      go_wp2
      go_ret
      exact ⟨by rw [HR.out]; rfl, rfl⟩
/-- A kind's pattern. -/
def patB (k : Nat) : ByteArray := if k = 0 then { data := #[110] } else if k = 1 then { data := #[102] } else if k = 2 then { data := #[119, 119, 118] } else if k = 3 then { data := #[119, 118, 119] } else if k = 4 then { data := #[119, 118, 119] } else if k = 5 then { data := #[119, 118, 116] } else { data := #[118, 119] }
theorem pattern_any (k : Nat) (hk : k ≤ 6) (w : World) : Calls Tryd.prog 42 #[.int .i64 (k : Int)] w fun x w' => x = .returned (.string (patB k)) ∧ B w w' := by
  have hk7 : k = 0 ∨ k = 1 ∨ k = 2 ∨ k = 3 ∨ k = 4 ∨ k = 5 ∨ k = 6 := by omega
  rcases hk7 with rfl | rfl | rfl | rfl | rfl | rfl | rfl
  all_goals
    go_enter Tryd.func42, Tryd.ntmps42
    go_wp2
    go_ret
    exact ⟨rfl, (B.refl _).alloc _ _⟩
theorem patB_size {k : Nat} (hk : k ≤ 6) : 1 ≤ (patB k).size ∧ (patB k).size ≤ 3 := by
  have hk7 : k = 0 ∨ k = 1 ∨ k = 2 ∨ k = 3 ∨ k = 4 ∨ k = 5 ∨ k = 6 := by omega
  rcases hk7 with rfl | rfl | rfl | rfl | rfl | rfl | rfl <;> decide
/-- The sign of the i-th word. -/
theorem patB_at {k i : Nat} (hk : k ≤ 6) (hi : 1 ≤ i) (h0 : k ≤ 1 → i = 1) (h4 : k = 2 ∨ k = 5 → i ≤ 3) (h : min i (patB k).size - 1 < (patB k).size) : (((patB k)[min i (patB k).size - 1]'h).toNat : Int) = codeP (toldP k i) := by
  have hk7 : k = 0 ∨ k = 1 ∨ k = 2 ∨ k = 3 ∨ k = 4 ∨ k = 5 ∨ k = 6 := by omega
  rcases hk7 with rfl | rfl | rfl | rfl | rfl | rfl | rfl
  · obtain rfl := h0 (by omega); rfl
  · obtain rfl := h0 (by omega); rfl
  · have := h4 (.inl rfl)
    have : i = 1 ∨ i = 2 ∨ i = 3 := by omega
    rcases this with rfl | rfl | rfl <;> rfl
  · match i, hi with
    | 1, _ => rfl
    | 2, _ => rfl
    | i + 3, _ =>
      have e : min (i + 3) (patB 3).size - 1 = 2 := by show min (i + 3) 3 - 1 = 2; omega
      have e2 : toldP 3 (i + 3) = 2 := by unfold toldP; simp
      rw [e2]
      simp only [e]
      rfl
  · match i, hi with
    | 1, _ => rfl
    | 2, _ => rfl
    | i + 3, _ =>
      have e : min (i + 3) (patB 4).size - 1 = 2 := by show min (i + 3) 3 - 1 = 2; omega
      have e2 : toldP 4 (i + 3) = 2 := by unfold toldP; simp
      rw [e2]
      simp only [e]
      rfl
  · have := h4 (.inr rfl)
    have : i = 1 ∨ i = 2 ∨ i = 3 := by omega
    rcases this with rfl | rfl | rfl <;> rfl
  · match i, hi with
    | 1, _ => rfl
    | i + 2, _ =>
      have e : min (i + 2) (patB 6).size - 1 = 1 := by show min (i + 2) 2 - 1 = 1; omega
      have e2 : toldP 6 (i + 2) = 2 := by unfold toldP; simp
      rw [e2]
      simp only [e]
      rfl
/-- The kind, where names ahead of the i-th have been looked at. -/
def kindTo (t : List UInt8) (i : Nat) : Int := match kindP t with
  | some k => if k < i then (k : Int) else -1
  | none => -1
theorem kindTo_zero (t : List UInt8) : kindTo t 0 = -1 := by unfold kindTo; split <;> simp
theorem kindTo_seven (t : List UInt8) : kindTo t 7 = match kindP t with | some k => (k : Int) | none => -1 := by
  unfold kindTo
  cases h : kindP t with
  | none => rfl
  | some k => simp only; rw [if_pos (by have := kindP_lt h; omega)]
theorem kindP_word (t : List UInt8) {i : Nat} (hi : i < 7) : t = kindW (i : Int) ↔ kindP t = some i := by
  have hk7 : i = 0 ∨ i = 1 ∨ i = 2 ∨ i = 3 ∨ i = 4 ∨ i = 5 ∨ i = 6 := by omega
  constructor
  · intro h
    subst h
    rcases hk7 with rfl | rfl | rfl | rfl | rfl | rfl | rfl <;> decide
  · intro h
    unfold kindP at h
    by_cases c0 : t = kUse
    · rw [if_pos c0] at h; injection h with h; subst h; exact c0
    rw [if_neg c0] at h
    by_cases c1 : t = kFresh
    · rw [if_pos c1] at h; injection h with h; subst h; exact c1
    rw [if_neg c1] at h
    by_cases c2 : t = kTransfer
    · rw [if_pos c2] at h; injection h with h; subst h; exact c2
    rw [if_neg c2] at h
    by_cases c3 : t = kSpread
    · rw [if_pos c3] at h; injection h with h; subst h; exact c3
    rw [if_neg c3] at h
    by_cases c4 : t = kGather
    · rw [if_pos c4] at h; injection h with h; subst h; exact c4
    rw [if_neg c4] at h
    by_cases c5 : t = kMix
    · rw [if_pos c5] at h; injection h with h; subst h; exact c5
    rw [if_neg c5] at h
    by_cases c6 : t = kDilute
    · rw [if_pos c6] at h; injection h with h; subst h; exact c6
    rw [if_neg c6] at h
    cases h
theorem kindTo_yes {t : List UInt8} {i : Nat} (h : kindP t = some i) : kindTo t (i + 1) = (i : Int) := by
  unfold kindTo
  rw [h]
  simp
theorem kindTo_no {t : List UInt8} {i : Nat} (h : kindP t ≠ some i) : kindTo t (i + 1) = kindTo t i := by
  unfold kindTo
  cases hk : kindP t with
  | none => rfl
  | some k =>
    simp only
    have hne : k ≠ i := fun e => h (by rw [hk, e])
    by_cases hl : k < i
    · rw [if_pos hl, if_pos (by omega)]
    · rw [if_neg hl, if_neg (by omega)]
end Go.Proofs.YthlileddhgglnaaDoor
