/-
  The document's StepsParse.
-/
import Derived.Deep.QuietTactic
import Derived.BigQuiet
import Derived.Deep.DeepCutAuto
import Derived.Lib.MinMax
import Derived.Test.YthlileddhgglnaaDoorV1
import Derived.Test.YthlileddhgglnaaDoorV2
import Derived.Test.YthlileddhgglnaaDoorV3
import Derived.Test.YthlileddhgglnaaDoorV4
import Derived.Test.YthlileddhgglnaaDoorV5
import Derived.Test.YthlileddhgglnaaDoorV7
import Derived.Test.YthlileddhgglnaaDoorV10
import Derived.Test.YthlileddhgglnaaDoorV13
import Derived.Test.YthlileddhgglnaaDoorV14
import Derived.Test.YthlileddhgglnaaDoorV15
import Derived.Test.YthlileddhgglnaaDoorV16
import Derived.Test.YthlileddhgglnaaDoorV17
namespace Go.Proofs.YthlileddhgglnaaDoor
open Go.RowKit
set_option linter.unusedVariables false
theorem headP_eq {x : Wd} {ws : List Wd} {k : Nat} (hkp : kindP x.2 = some k) : headP (x :: ws) = if enoughP k (ws.length + 1) && (decide (k ≠ 1) || oftenP (x :: ws)) then some k else none := by unfold headP; simp only [hkp, List.length_cons]
theorem lineP_head0 {x : Wd} {ws : List Wd} {had : Nat} (h : headP (x :: ws) = none) : lineP had (x :: ws) = .error (x.1, 24) := by unfold lineP; simp only [h]
theorem lineP_headk {x : Wd} {ws : List Wd} {had k : Nat} (h : headP (x :: ws) = some k) : lineP had (x :: ws) = if 200 ≤ had ∨ 98 < ws.length + 1 then .error (x.1, 27) else readP k 1 (sp0 k) ws := by unfold lineP; simp only [h, List.length_cons]
theorem parse_err {LL : List (List Wd)} {LP : Except (Nat × Nat) Sp} {f : Sp → Except (Nat × Nat) (List Sp)} {p n : Nat} (h : parseP LL [] = match LP with | .error e => .error e | .ok s => f s) (hL : LP = .error (p, n)) : parseP LL [] = .error (p, n) := by rw [h, hL]
theorem enough_small {k n : Nat} (h : enoughP k n = true) (hk : k ≤ 1) : n = 2 := by
  have : k = 0 ∨ k = 1 := by omega
  rcases this with rfl | rfl <;> (unfold enoughP at h; simp at h; exact h)
theorem enough_four {k n : Nat} (h : enoughP k n = true) (hk : k = 2 ∨ k = 5) : n = 4 := by
  rcases hk with rfl | rfl <;> (unfold enoughP at h; simp at h; exact h)
theorem xs_bytes {KB XS : ByteArray} {t : List UInt8} {i : Nat} (hi : i < 7) (hK : strB (kindW (i : Int)) = KB) (hX : XS.toList = t) (h : kindP t = some i) : (KB.toList == XS.toList) = true := by
  rw [← hK, strB_lst, hX, (kindP_word t hi).2 h]
  simp
theorem xs_bytesN {KB XS : ByteArray} {t : List UInt8} {i : Nat} (hi : i < 7) (hK : strB (kindW (i : Int)) = KB) (hX : XS.toList = t) (h : kindP t ≠ some i) : (KB.toList == XS.toList) = false := by
  rw [← hK, strB_lst, hX, beq_eq_false_iff_ne]
  exact fun e => h ((kindP_word t hi).1 e.symm)
set_option maxRecDepth 100000 in
set_option maxHeartbeats 8000000 in
theorem r8stepsparse_any (v : Value) (LL : List (List Wd)) (w : World) (h : IsLnO w v LL) (hL : LL.length ≤ 65536) (hws : ∀ ws ∈ LL, ws.length ≤ 65536) (hlong : ∀ ws ∈ LL, ∀ x ∈ ws, x.2.length ≤ 65536) : Calls Tryd.prog 19 #[v] w (ProtoRes LL w) := by
  obtain ⟨i0, hi0, hz0, hz1, hz2⟩ := info_of stepInfoP
  obtain ⟨i1, hi1, hy0, hy1, hy2⟩ := info_of intsInfoP
  obtain ⟨i2, hi2, hx0, hx1, hx2⟩ := info_of intInfoP
  obtain ⟨lo, lc, rfl⟩ := h.form
  obtain ⟨ln, hln⟩ : ∃ ln, LL.length = ln := ⟨_, rfl⟩
  have HI := Lib.hid h
  clear h
  rw [hln]
  obtain ⟨R, hRb⟩ : ∃ R, w.heap.size = R := ⟨_, rfl⟩
  have hRB := Lib.hid hRb
  clear hRb
  go_enter Tryd.func19, Tryd.ntmps19
  go_wp2_with fail
  go_loopw [6, 7, 8] (fun sv ov iv wr => ∃ (i ns np : Nat) (so po : Option Addr) (sc pc : Nat) (S_ : List Sp) (vs us : List Value), i ≤ ln ∧ iv = .int .i64 i ∧ sv = .slice so ns sc ∧ ov = .slice po np pc ∧ StP wr R (.slice so ns sc) S_ vs (.slice po np pc) (placesP (LL.take i)) us ∧ S_.length = ns ∧ (placesP (LL.take i)).length = np ∧ ns ≤ 200 ∧ parseP LL [] = parseP (LL.drop i) S_ ∧ B w wr) (fun _ _ iv _ => ln + 1 - (intOf iv).toNat)
  case atStart => exact ⟨0, 0, 0, none, none, 0, 0, [], [], [], Nat.zero_le _, rfl, rfl, rfl, StP.nil _ _, rfl, rfl, by omega, rfl, B.refl _⟩
  case round =>
    obtain ⟨i, ns, np, so, po, sc, pc, S_, vs, us, hi, rfl, rfl, rfl, hSt, hSn, hPn, hn2, hpar, q⟩ := hrel
    obtain ⟨wi, rfl⟩ : ∃ wi : World, wi = wr := ⟨_, rfl⟩
    by_cases hl : i < ln
    · have hlB : decide ((i : Int) < (ln : Int)) = true := decide_eq_true (by omega)
      have hlN : decide (i < ln) = true := decide_eq_true hl
      have hlI : (i : Int) < (ln : Int) := by omega
      have hi0' : (0 : Int) ≤ (i : Int) := by omega
      have wk1 : IntKind.i64.wrap ((i : Int) + 1) = (i : Int) + 1 := by rw [IntKind.wrap_i64]; omega
      obtain ⟨X, hX⟩ : ∃ X, LL[i]? = some X := ⟨_, List.getElem?_eq_getElem (by omega)⟩
      have hXm := List.mem_of_getElem? hX
      obtain ⟨g, o, cap, u, hv, hc0, hw0⟩ := HI.out.at_ (i := i) (by omega)
      have hc := q.keep hc0
      rw [show LL[i]'(by omega) = X by rw [List.getElem?_eq_getElem (by omega)] at hX; simpa using hX] at hw0
      obtain ⟨rfl, _, rfl⟩ : lo = some ⟨g, o, none⟩ ∧ True ∧ lc = cap := by simpa using hv
      clear hv hc0
      cases X with
      | nil =>
        obtain ⟨uo, uc, rfl⟩ := hw0.form
        have hpl := placesP_nil hX
        have hpn := parseP_nil (S := S_) hX
        have HN := Lib.hid (And.intro hSt (And.intro hSn (And.intro hPn (And.intro hn2 (And.intro (hpar.trans hpn) (And.intro q (And.intro hl hpl)))))))
        clear hpl hpn hpar hSt hSn hPn hn2 q hl hi hX hXm hw0
        go_wp2
        go_roundw
        case rel => exact ⟨i + 1, ns, np, so, po, sc, pc, S_, vs, us, by have := HN.out.2.2.2.2.2.2.1; omega, by go_num, rfl, rfl, by rw [HN.out.2.2.2.2.2.2.2]; exact HN.out.1, HN.out.2.1, by rw [HN.out.2.2.2.2.2.2.2]; exact HN.out.2.2.1, HN.out.2.2.2.1, HN.out.2.2.2.2.1, HN.out.2.2.2.2.2.1⟩
        case measure => have := HN.out.2.2.2.2.2.2.1; simp [intOf]; omega
      | cons x ws =>
        have hxs := hws _ hXm
        have hxl := hlong _ hXm
        obtain ⟨g2, lc2, rfl, hle2, hm2, hlt2, z⟩ := hw0.full (by simp)
        obtain ⟨n, hn⟩ : ∃ n, (x :: ws).length = n := ⟨_, rfl⟩
        obtain ⟨m, hm'⟩ : ∃ m, ws.length = m := ⟨_, rfl⟩
        have hnm' : n = m + 1 := by rw [← hn, ← hm']; simp
        have hn0 : (0 : Int) < (n : Int) := by omega
        have hn0B : ((n : Int) == 0) = false := by rw [beq_eq_false_iff_ne]; omega
        have hnm := Lib.hid hnm'
        obtain ⟨XA, hXA⟩ : ∃ XA, x.1 = XA := ⟨_, rfl⟩
        obtain ⟨XS, hXS⟩ : ∃ XS, strB x.2 = XS := ⟨_, rfl⟩
        obtain ⟨z0, z1⟩ := z 0 x rfl
        rw [Nat.zero_mul, hXA] at z0
        rw [Nat.zero_mul, Nat.zero_add, hXS] at z1
        have hXt := Lib.hid (show XS.toList = x.2 by rw [← hXS]; exact strB_lst _)
        have k0 := q.keep z0
        have k1 := q.keep z1
        rw [hn] at hc
        have hpc := parseP_cons (S := S_) hX
        have hpl := placesP_cons hX
        rw [hSn] at hpc
        have hnz : n ≤ 65537 := by omega
        obtain ⟨LP, hLP⟩ : ∃ LP, lineP ns (x :: ws) = LP := ⟨_, rfl⟩
        rw [hLP] at hpc
        have HN := Lib.hid (And.intro hSt (And.intro hSn (And.intro hPn (And.intro hn2 (And.intro (hpar.trans hpc) (And.intro q (And.intro hl (And.intro hpl (And.intro hxl z)))))))))
        have HLP := Lib.hid hLP
        have HXN := Lib.hid (And.intro hn (And.intro hm' hXA))
        clear hpc hpar hSt hSn hPn hn2 q hl hi hX hXm hw0 hpl hxs hxl hLP z z0 z1 hnm' hn hm' hXA hXS hle2 hm2 hlt2
        go_wp2_with fail
        go_loopw [10, 11] (fun kv jv wr => ∃ j : Nat, j ≤ 7 ∧ jv = .int .i64 j ∧ kv = .int .i64 (kindTo x.2 j) ∧ B wi wr) (fun _ jv _ => 8 - (intOf jv).toNat)
        case atStart => exact ⟨0, by omega, rfl, by rw [kindTo_zero], B.refl _⟩
        case round =>
          obtain ⟨j, hj, rfl, rfl, q1⟩ := hrel
          obtain ⟨wk, rfl⟩ : ∃ wk : World, wk = wr := ⟨_, rfl⟩
          have cN := fun w => r8names_any w
          have x1 := q1.keep k1
          have x0 := q1.keep k0
          by_cases hl : j < 7
          · have hlB : decide ((j : Int) < (7 : Int)) = true := decide_eq_true (by omega)
            have hlN : decide (j < 7) = true := decide_eq_true hl
            have hlI : (j : Int) < (7 : Int) := by omega
            have hi0' : (0 : Int) ≤ (j : Int) := by omega
            have wk1 : IntKind.i64.wrap ((j : Int) + 1) = (j : Int) + 1 := by rw [IntKind.wrap_i64]; omega
            obtain ⟨KB, hKB⟩ : ∃ KB, strB (kindW (j : Int)) = KB := ⟨_, rfl⟩
            obtain ⟨KT, hKT⟩ : ∃ KT, kindTo x.2 j = KT := ⟨_, rfl⟩
            rw [hKT]
            have cNm : ∀ w, Calls Tryd.prog 22 #[] w fun e w' => ∃ b, e = .returned (.slice (some ⟨b, 0, none⟩) 7 7) ∧ B w w' ∧ w'.cell? ⟨b, j, none⟩ = some (.string KB) := fun w => (r8names_any w).mono (by
              rintro e w' ⟨b, rfl, hQ, hb, hcc⟩
              refine ⟨b, rfl, hQ.b, ?_⟩
              have := hcc (j : Int) (by omega) (by omega)
              rwa [Int.toNat_natCast, hKB] at this)
            go_wp2_with fail
            refine (Calls.mono (cN _) ?_)
            rintro _ w2 ⟨b2, rfl, q2, _, _⟩
            replace x1 := q2.b.keep x1
            clear cN x0
            cases hkp : decide (kindP x.2 = some j)
            · have hne := of_decide_eq_false hkp
              have eB := xs_bytesN hl hKB hXt.out hne
              have HK := Lib.hid (And.intro (kindTo_no hne) (And.intro hl (And.intro hKT (q1.trans q2.b))))
              clear hne hkp hKB hKT hl hj q1 q2
              go_wp2_with fail
              go_region_with (go_at_call 22; with_reducible refine (cNm _).mono ?_; rintro _ w5 ⟨b, rfl, q5, hc5⟩; have x15 := ((B.refl w2).drew.trans q5).keep x1)
              all_goals
                replace HK := Lib.hid (And.intro HK.out ((B.refl w2).drew.trans q5))
                clear q5 hc5
                first
                  | exact ⟨⟨j + 1, by have := HK.out.1.2.1; omega, by go_num, by rw [HK.out.1.1, HK.out.1.2.2.1], HK.out.1.2.2.2.trans HK.out.2⟩, by have := HK.out.1.2.1; simp [intOf]; omega⟩
                  | (go_wp2; exact ⟨⟨j + 1, by have := HK.out.1.2.1; omega, by go_num, by rw [HK.out.1.1, HK.out.1.2.2.1], HK.out.1.2.2.2.trans HK.out.2⟩, by have := HK.out.1.2.1; simp [intOf]; omega⟩)
            · have hne := of_decide_eq_true hkp
              have eB := xs_bytes hl hKB hXt.out hne
              have HK := Lib.hid (And.intro (kindTo_yes hne) (And.intro hl (q1.trans q2.b)))
              clear hne hkp hKB hKT hl hj q1 q2
              go_wp2_with fail
              go_region_with (go_at_call 22; with_reducible refine (cNm _).mono ?_; rintro _ w5 ⟨b, rfl, q5, hc5⟩; have x15 := ((B.refl w2).drew.trans q5).keep x1)
              all_goals
                replace HK := Lib.hid (And.intro HK.out ((B.refl w2).drew.trans q5))
                clear q5 hc5
                first
                  | exact ⟨⟨j + 1, by have := HK.out.1.2.1; omega, by go_num, by rw [HK.out.1.1], HK.out.1.2.2.trans HK.out.2⟩, by have := HK.out.1.2.1; simp [intOf]; omega⟩
                  | (go_wp2; exact ⟨⟨j + 1, by have := HK.out.1.2.1; omega, by go_num, by rw [HK.out.1.1], HK.out.1.2.2.trans HK.out.2⟩, by have := HK.out.1.2.1; simp [intOf]; omega⟩)
          · have hlB : decide ((j : Int) < (7 : Int)) = false := decide_eq_false (by omega)
            have hlN : decide (j < 7) = false := decide_eq_false hl
            obtain rfl : j = 7 := by omega
            obtain ⟨KT, hKT⟩ : ∃ KT, kindTo x.2 7 = KT := ⟨_, rfl⟩
            have hk7 := kindTo_seven x.2
            rw [hKT] at hk7 ⊢
            go_wp2_with fail
            refine (Calls.mono (cN _) ?_)
            rintro _ w2 ⟨b2, rfl, q2, _, _⟩
            replace x0 := q2.b.keep x0
            replace x1 := q2.b.keep x1
            have q9 := q1.trans q2.b
            have HKT := Lib.hid hKT
            clear cN q1 q2 hl hj k0 k1 hKT
            cases hkp : kindP x.2 with
            | none =>
              rw [hkp] at hk7
              simp only at hk7
              subst hk7
              have hh : headP (x :: ws) = none := by unfold headP; simp only [hkp]
              have HE : Hid (parseP LL [] = .error (XA, 24)) := Lib.hid (parse_err HN.out.2.2.2.2.1 (by rw [← HLP.out, lineP_head0 hh, HXN.out.2.2]))
              clear hh hkp
              have HQ := Lib.hid (HN.out.2.2.2.2.2.1.trans q9)
              clear q9
              go_wp2_with fail
              go_quiet (fail)
              go_wp2
              try simp only [Exit.inBlock, Exit.then]
              refine bodyPost_ret (results_tmp4 rfl _ _ _) rfl ?_
              exact protoRes_err HE.out (HQ.out.drewN _)
            | some k =>
              rw [hkp] at hk7
              simp only at hk7
              subst hk7
              have hk6 := kindP_lt hkp
              have kB : decide ((k : Int) < 0) = false := decide_eq_false (by omega)
              have cE := enough_any k n hk6 w2
              have hhe := headP_eq (ws := ws) hkp
              rw [HXN.out.2.1, ← hnm.out] at hhe
              cases hen : enoughP k n with
              | false =>
                rw [hen] at cE hhe
                have hh : headP (x :: ws) = none := hhe
                have HE : Hid (parseP LL [] = .error (XA, 24)) := Lib.hid (parse_err HN.out.2.2.2.2.1 (by rw [← HLP.out, lineP_head0 hh, HXN.out.2.2]))
                clear hh hhe hkp hen
                go_wp2_with fail
                refine (Calls.mono cE ?_)
                rintro _ _ ⟨rfl, rfl⟩
                clear cE
                have HQ := Lib.hid (HN.out.2.2.2.2.2.1.trans q9)
                clear q9
                go_wp2_with fail
                go_quiet (fail)
                go_wp2
                try simp only [Exit.inBlock, Exit.then]
                refine bodyPost_ret (results_tmp4 rfl _ _ _) rfl ?_
                exact protoRes_err HE.out (HQ.out.drewN _)
              | true =>
              rw [hen] at cE hhe
              by_cases hof : k = 1 ∧ oftenP (x :: ws) = false
              · obtain ⟨rfl, hof⟩ := hof
                have hn2 := enough_small hen (by omega)
                obtain ⟨y, rfl⟩ : ∃ y, ws = [y] := by
                  have h2 : (x :: ws).length = 2 := HXN.out.1.trans hn2
                  match ws, h2 with
                  | [y], _ => exact ⟨y, rfl⟩
                  | [], h => exact absurd h (by simp)
                  | _ :: _ :: _, h => exact absurd h (by simp)
                obtain ⟨_, y1⟩ := HN.out.2.2.2.2.2.2.2.2.2 1 y rfl
                rw [show 1 * 2 + 1 = 3 from rfl] at y1
                replace y1 := (HN.out.2.2.2.2.2.1.trans q9).keep y1
                obtain ⟨YS, hYS⟩ : ∃ YS, strB y.2 = YS := ⟨_, rfl⟩
                have hYt := Lib.hid (show YS.toList = y.2 by rw [← hYS]; exact strB_lst _)
                rw [hYS] at y1
                have h2I : (1 : Int) < (n : Int) := by omega
                clear hYS hn2
                rw [hof] at hhe
                have hof' : (decide (y.2 = kEach) || decide (y.2 = kOnce)) = false := hof
                rw [Bool.or_eq_false_iff] at hof'
                have e1 := of_decide_eq_false hof'.1
                have e2 := of_decide_eq_false hof'.2
                have s1 : (YS.toList == [101, 97, 99, 104]) = false := by rw [hYt.out, beq_eq_false_iff_ne]; exact e1
                have s2 : (YS.toList == [111, 110, 99, 101]) = false := by rw [hYt.out, beq_eq_false_iff_ne]; exact e2
                have HE : Hid (parseP LL [] = .error (XA, 24)) := Lib.hid (parse_err HN.out.2.2.2.2.1 (by rw [← HLP.out, lineP_head0 hhe, HXN.out.2.2]))
                clear hhe hof hof' e1 e2 hkp hen
                go_wp2_with fail
                refine (Calls.mono cE ?_)
                rintro _ _ ⟨rfl, rfl⟩
                clear cE
                have HQ := Lib.hid (HN.out.2.2.2.2.2.1.trans q9)
                clear q9
                go_wp2_with fail
                go_quiet (fail)
                go_wp2
                try simp only [Exit.inBlock, Exit.then]
                refine bodyPost_ret (results_tmp4 rfl _ _ _) rfl ?_
                exact protoRes_err HE.out (HQ.out.drewN _)
              have hHP : headP (x :: ws) = some k := by
                rw [hhe, if_pos]
                rw [Bool.true_and, Bool.or_eq_true]
                by_cases h1 : k = 1
                · right
                  cases ho : oftenP (x :: ws) with
                  | true => rfl
                  | false => exact absurd ⟨h1, ho⟩ hof
                · left; simp [h1]
              have hLk := lineP_headk (had := ns) hHP
              rw [HXN.out.2.1, ← hnm.out, HXN.out.2.2, HLP.out] at hLk
              clear hhe
              go_upto_region 14 with fail
              go_cut [72] (fun c wx => c = .bool false ∧ wx = w2)
              case first =>
                by_cases h1 : k = 1
                · subst h1
                  have hn2 := enough_small hen (by omega)
                  obtain ⟨y, rfl⟩ : ∃ y, ws = [y] := by
                    have h2 : (x :: ws).length = 2 := HXN.out.1.trans hn2
                    match ws, h2 with
                    | [y], _ => exact ⟨y, rfl⟩
                    | [], h => exact absurd h (by simp)
                    | _ :: _ :: _, h => exact absurd h (by simp)
                  obtain ⟨_, y1⟩ := HN.out.2.2.2.2.2.2.2.2.2 1 y rfl
                  rw [show 1 * 2 + 1 = 3 from rfl] at y1
                  replace y1 := (HN.out.2.2.2.2.2.1.trans q9).keep y1
                  obtain ⟨YS, hYS⟩ : ∃ YS, strB y.2 = YS := ⟨_, rfl⟩
                  have hYt := Lib.hid (show YS.toList = y.2 by rw [← hYS]; exact strB_lst _)
                  rw [hYS] at y1
                  have h2I : (1 : Int) < (n : Int) := by omega
                  clear hYS hn2
                  have hofy : (decide (y.2 = kEach) || decide (y.2 = kOnce)) = true := by
                    cases ho : (decide (y.2 = kEach) || decide (y.2 = kOnce)) with
                    | true => rfl
                    | false => exact absurd ⟨rfl, ho⟩ hof
                  by_cases e1 : y.2 = kEach
                  · have s1 : (YS.toList == [101, 97, 99, 104]) = true := by rw [hYt.out, e1]; rfl
                    clear hofy hof hHP hLk hen e1 hkp
                    go_wp2_with fail
                    refine (Calls.mono cE ?_)
                    rintro _ _ ⟨rfl, rfl⟩
                    clear cE
                    go_wp2_with fail
                    go_meet
                    case rel => exact ⟨rfl, rfl⟩
                  · have s1 : (YS.toList == [101, 97, 99, 104]) = false := by rw [hYt.out, beq_eq_false_iff_ne]; exact e1
                    have e2 : y.2 = kOnce := by
                      rw [decide_eq_false e1, Bool.false_or] at hofy
                      exact of_decide_eq_true hofy
                    have s2 : (YS.toList == [111, 110, 99, 101]) = true := by rw [hYt.out, e2]; rfl
                    clear hofy hof hHP hLk hen e1 e2 hkp
                    go_wp2_with fail
                    refine (Calls.mono cE ?_)
                    rintro _ _ ⟨rfl, rfl⟩
                    clear cE
                    go_wp2_with fail
                    go_meet
                    case rel => exact ⟨rfl, rfl⟩
                · have h1B : ((k : Int) == 1) = false := by rw [beq_eq_false_iff_ne]; omega
                  clear hof hHP hLk hen h1 hkp
                  go_wp2_with fail
                  refine (Calls.mono cE ?_)
                  rintro _ _ ⟨rfl, rfl⟩
                  clear cE
                  go_wp2_with fail
                  go_meet
                  case rel => exact ⟨rfl, rfl⟩
              case rest =>
                obtain ⟨hc72, hcw⟩ := hcut
                rw [hcw]
                subst hc72
                clear hcw cE hof
                obtain ⟨m2, hm2⟩ : ∃ m2 : Nat, n = m2 + 2 := ⟨n - 2, by have := enough_two hen; omega⟩
                have hmm := Lib.hid hm2
                have wm2 : IntKind.i64.wrap ((n : Int) - 2) = (m2 : Int) := by rw [IntKind.wrap_i64]; omega
                clear hm2
                by_cases hfull : 200 ≤ ns
                · have h200 : decide ((200 : Int) ≤ (ns : Int)) = true := decide_eq_true (by omega)
                  have h200N : decide (200 ≤ ns) = true := decide_eq_true hfull
                  have HE : Hid (parseP LL [] = .error (XA, 27)) := Lib.hid (parse_err HN.out.2.2.2.2.1 (by rw [hLk, if_pos (.inl hfull)]))
                  clear hLk hfull hHP hen hkp
                  have HQ := Lib.hid (HN.out.2.2.2.2.2.1.trans q9)
                  clear q9
                  go_wp2_with fail
                  go_quiet (fail)
                  go_wp2
                  try simp only [Exit.inBlock, Exit.then]
                  refine bodyPost_ret (results_tmp4 rfl _ _ _) rfl ?_
                  exact protoRes_err HE.out (HQ.out.drewN _)
                have h200 : decide ((200 : Int) ≤ (ns : Int)) = false := decide_eq_false (by omega)
                have h200N : decide (200 ≤ ns) = false := decide_eq_false hfull
                by_cases hbig : 98 < n
                · have h1k : decide ((1 : Int) < (k : Int)) = true := decide_eq_true (by have := fun h => enough_small hen h; omega)
                  have h1kN : decide (1 < k) = true := decide_eq_true (by have := fun h => enough_small hen h; omega)
                  have h96 : decide ((96 : Int) < (m2 : Int)) = true := decide_eq_true (by have := hmm.out; omega)
                  have h96N : decide (96 < m2) = true := decide_eq_true (by have := hmm.out; omega)
                  have HE : Hid (parseP LL [] = .error (XA, 27)) := Lib.hid (parse_err HN.out.2.2.2.2.1 (by rw [hLk, if_pos (.inr hbig)]))
                  clear hLk hfull hHP hen hbig hkp
                  have HQ := Lib.hid (HN.out.2.2.2.2.2.1.trans q9)
                  clear q9
                  go_wp2_with fail
                  go_quiet (fail)
                  go_wp2
                  try simp only [Exit.inBlock, Exit.then]
                  refine bodyPost_ret (results_tmp4 rfl _ _ _) rfl ?_
                  exact protoRes_err HE.out (HQ.out.drewN _)
                have h96 : decide ((96 : Int) < (m2 : Int)) = false := decide_eq_false (by have := hmm.out; omega)
                have h96N : decide (96 < m2) = false := decide_eq_false (by have := hmm.out; omega)
                rw [if_neg (by omega)] at hLk
                go_upto_region 16 with fail
                go_cut [89] (fun c wx => c = .bool false ∧ wx = w2)
                case first =>
                  cases h1k : decide ((1 : Int) < (k : Int))
                  · have h1kN : decide (1 < k) = false := decide_eq_false (by have := of_decide_eq_false h1k; omega)
                    clear hLk hfull hHP hen hbig hkp
                    go_wp2_with fail
                    go_meet
                    case rel => exact ⟨rfl, rfl⟩
                  · have h1kN : decide (1 < k) = true := decide_eq_true (by have := of_decide_eq_true h1k; omega)
                    clear hLk hfull hHP hen hbig hkp
                    go_wp2_with fail
                    go_meet
                    case rel => exact ⟨rfl, rfl⟩
                case rest =>
                  obtain ⟨hc89, hcw⟩ := hcut
                  rw [hcw]
                  subst hc89
                  clear hcw
                  have hSw : w2.heap.size < ((w2.alloc (.cells #[.int .i64 (k : Int), .string ⟨#[]⟩, .slice none 0 0, .int .i64 0, .int .i64 0] 47)).alloc (.cells #[.int .i64 (XA : Int)] 3)).heap.size := by simp; omega
                  have q24 : B w2 ((w2.alloc (.cells #[.int .i64 (k : Int), .string ⟨#[]⟩, .slice none 0 0, .int .i64 0, .int .i64 0] 47)).alloc (.cells #[.int .i64 (XA : Int)] 3)) := ((B.refl _).alloc _ _).alloc _ _
                  have oS := obj_past (obj_new w2 (.cells #[.int .i64 (k : Int), .string ⟨#[]⟩, .slice none 0 0, .int .i64 0, .int .i64 0] 47)) (.cells #[.int .i64 (XA : Int)] 3)
                  have hO0 : ((w2.alloc (.cells #[.int .i64 (k : Int), .string ⟨#[]⟩, .slice none 0 0, .int .i64 0, .int .i64 0] 47)).alloc (.cells #[.int .i64 (XA : Int)] 3)).ownsRow wi.heap.size 3 1 (.slice (some ⟨(w2.alloc (.cells #[.int .i64 (k : Int), .string ⟨#[]⟩, .slice none 0 0, .int .i64 0, .int .i64 0] 47)).heap.size, 0, none⟩) 1 1) 1 (flatI [XA]) := World.ownsRow_lit (w2.alloc (.cells #[.int .i64 (k : Int), .string ⟨#[]⟩, .slice none 0 0, .int .i64 0, .int .i64 0] 47)) #[.int .i64 (XA : Int)] 1 (by have := q9.below.size; simp; omega) (by decide) rfl
                  rw [show (w2.alloc (.cells #[.int .i64 (k : Int), .string ⟨#[]⟩, .slice none 0 0, .int .i64 0, .int .i64 0] 47)).heap.size = w2.heap.size + 1 by simp] at hO0
                  have q94 := q9.trans q24
                  have hwiS : wi.heap.size ≤ w2.heap.size := q9.below.size
                  have hk1 : n ≤ 98 := by omega
                  have hEN : (k ≤ 1 → n = 2) ∧ (k = 2 ∨ k = 5 → n = 4) := ⟨enough_small hen, enough_four hen⟩
                  replace hLk := Lib.hid hLk
                  have x03 : (w2.alloc (.cells #[.int .i64 (k : Int), .string ⟨#[]⟩, .slice none 0 0, .int .i64 0, .int .i64 0] 47)).cell? ⟨g2, 0, none⟩ = some (.int .i64 (XA : Int)) := ((B.refl w2).alloc _ _).keep x0
                  clear hkp hen hHP hfull hbig q24 q9
                  go_wp2_with fail
                  clear x03
                  generalize ((w2.alloc (.cells #[.int .i64 (k : Int), .string ⟨#[]⟩, .slice none 0 0, .int .i64 0, .int .i64 0] 47)).alloc (.cells #[.int .i64 (XA : Int)] 3)) = W4 at *
                  obtain ⟨S, hSb⟩ : ∃ S, w2.heap.size = S := ⟨_, rfl⟩
                  rw [hSb] at oS hO0 hwiS hSw ⊢
                  replace hSb := Lib.hid hSb
                  have hU0 : StepU W4 wi.heap.size S (sp0 k) (.slice none 0 0) := ⟨oS, World.ownsRow_nil _ _ _ _⟩
                  go_loopw [13, 14] (fun ov iv wr => ∃ (j i9 : Nat) (s : Sp) (wv : Value) (g3 c3 : Nat), i9 = j + 1 ∧ j ≤ m ∧ iv = .int .i64 (i9 : Int) ∧ ov = .slice (some ⟨g3, 0, none⟩) i9 c3 ∧ readP k i9 s (ws.drop j) = readP k 1 (sp0 k) ws ∧ s.w.length ≤ j ∧ StepU wr wi.heap.size S s wv ∧ wr.ownsRow wi.heap.size 3 1 (.slice (some ⟨g3, 0, none⟩) i9 c3) i9 (flatI (((x :: ws).take i9).map (·.1))) ∧ B wi wr) (fun _ iv _ => n + 1 - (intOf iv).toNat)
                  case atStart => exact ⟨0, 1, sp0 k, _, S + 1, 1, rfl, Nat.zero_le _, rfl, rfl, rfl, Nat.le_refl _, hU0, by rw [show ((x :: ws).take 1).map (·.1) = [XA] by simp [HXN.out.2.2]]; exact hO0, q94⟩
                  case round =>
                    clear hU0 hO0 q94 oS x0 x1
                    obtain ⟨j9, i9, s, wv, g3, c3, hij, hj, rfl, rfl, hread, hlen, hU, hO, q8⟩ := hrel
                    obtain ⟨w4, rfl⟩ : ∃ w4 : World, w4 = wr := ⟨_, rfl⟩
                    have hij' := Lib.hid hij
                    by_cases hl : i9 < n
                    · have hlB : decide ((i9 : Int) < (n : Int)) = true := decide_eq_true (by omega)
                      have hlN : decide (i9 < n) = true := decide_eq_true hl
                      have hlI : (i9 : Int) < (n : Int) := by omega
                      have hi0' : (0 : Int) ≤ (i9 : Int) := by omega
                      have hjm : j9 < m := by have := hnm.out; omega
                      have wk9 : IntKind.i64.wrap ((i9 : Int) + 1) = (i9 : Int) + 1 := by rw [IntKind.wrap_i64]; omega
                      obtain ⟨y, hy⟩ : ∃ y, ws[j9]? = some y := ⟨_, List.getElem?_eq_getElem (by have := HXN.out.2.1; omega)⟩
                      have hyx : (x :: ws)[i9]? = some y := by rw [hij]; simpa using hy
                      obtain ⟨z1, z2⟩ := HN.out.2.2.2.2.2.2.2.2.2 i9 y hyx
                      have hyt := HN.out.2.2.2.2.2.2.2.2.1 y (List.mem_of_getElem? hyx)
                      have hstep := readP_step (k := k) (s := s) hy i9
                      obtain ⟨E, hE⟩ : ∃ E, (takeP s (toldP k i9) y.2).2 = E := ⟨_, rfl⟩
                      obtain ⟨s', hs'⟩ : ∃ s', (takeP s (toldP k i9) y.2).1 = s' := ⟨_, rfl⟩
                      have hslen := takeP_len s (toldP k i9) y.2
                      rw [hs'] at hslen
                      rw [hE, hs'] at hstep
                      have hup : flatI (((x :: ws).take i9).map (·.1)) ++ [.int .i64 ((y.1 : Nat) : Int)] = flatI (((x :: ws).take (i9 + 1)).map (·.1)) := by
                        rw [List.take_add_one, hyx, List.map_append, Option.toList_some, List.map_cons, List.map_nil, flatI_snoc]
                      obtain ⟨YA, hYA⟩ : ∃ YA, y.1 = YA := ⟨_, rfl⟩
                      rw [hYA] at z1 hstep hup
                      have htold : toldP k i9 ≤ 4 := by unfold toldP; repeat' split
                                                        all_goals omega
                      obtain ⟨pz1, pz3⟩ := patB_size hk6
                      obtain ⟨PB, hPB⟩ : ∃ PB, patB k = PB := ⟨_, rfl⟩
                      have hpa := fun h => patB_at hk6 (i := i9) (by omega) (fun h1 => by have := hEN.1 h1; omega) (fun h1 => by have := hEN.2 h1; omega) h
                      obtain ⟨pz, hpz⟩ : ∃ pz, PB.size = pz := ⟨_, rfl⟩
                      rw [hPB, hpz] at pz1 pz3
                      obtain ⟨mj, hmj⟩ : ∃ mj, min i9 pz = mj + 1 := ⟨min i9 pz - 1, by omega⟩
                      have hmI : min (i9 : Int) (pz : Int) = ((mj + 1 : Nat) : Int) := by omega
                      obtain ⟨mi, hmi⟩ : ∃ mi, mj + 1 = mi := ⟨_, rfl⟩
                      rw [hmi] at hmI
                      have wmj : IntKind.i64.wrap ((mi : Int) - 1) = (mj : Int) := by rw [IntKind.wrap_i64]; omega
                      have hmp : (mj : Int) < (pz : Int) := by omega
                      have hmpN : mj < pz := by omega
                      have hm0 : (0 : Int) ≤ (mj : Int) := by omega
                      obtain ⟨CD, hCD⟩ : ∃ CD, (PB[mj]'(by omega)).toNat = CD := ⟨_, rfl⟩
                      have hg : ∀ h : mj < PB.size, (PB[mj]'h).toNat = CD := fun _ => hCD
                      have hcd : (CD : Int) = codeP (toldP k i9) := by
                        have h8 : min i9 (patB k).size - 1 = mj := by rw [hPB, hpz, hmj]; omega
                        have h9 := hpa (by rw [h8, hPB, hpz]; exact hmpN)
                        rw [byteAt_get, h8, hPB] at h9
                        rw [← h9, ← hCD, byteAt_get]
                      have q4y := HN.out.2.2.2.2.2.1.trans q8
                      have cP := pattern_any k hk6 w4
                      rw [hPB] at cP
                      obtain ⟨K, N9, WS9, V, M⟩ := s
                      obtain ⟨oS, hrow⟩ := hU
                      simp only at oS hrow hlen
                      obtain ⟨so9, sc9, rfl⟩ := own_slice hrow
                      obtain ⟨wl, hwl⟩ : ∃ wl, WS9.length = wl := ⟨_, rfl⟩
                      have cT := fun wB' (q' : B w4 wB') => r8word_any wi wB' (q8.trans q') ⟨K, N9, WS9, V, M⟩ (.slice so9 WS9.length sc9) (toldP k i9) htold y.2 hyt (row_keep hrow q') (by simp only; omega)
                      rw [← hcd] at cT
                      unfold WordRes at cT
                      rw [hE, hs'] at cT
                      simp only at cT
                      obtain ⟨YS, hYS⟩ : ∃ YS, strB y.2 = YS := ⟨_, rfl⟩
                      rw [hYS] at z2 cT
                      rw [hwl] at cT oS hrow
                      have HH := Lib.hid (And.intro hread (And.intro hstep (And.intro hlen (And.intro hslen (And.intro hjm (And.intro hup q8))))))
                      have HZ1 := Lib.hid z1
                      have z1' := q4y.keep z1
                      have z2' := q4y.keep z2
                      have hnb : i9 ≤ 98 := by omega
                      clear hread hstep hlen hslen hl hE hs' hYA hYS hy hyx hyt hup htold hPB hpa hmj hmi hCD hcd hrow z1 z2 q4y hj hjm hij pz1 pz3
                      go_wp2_with fail
                      refine (Calls.mono cP ?_)
                      rintro _ w5 ⟨rfl, q5⟩
                      clear cP
                      have oS5 := q5.obj oS
                      have hO5 := row_keep hO q5
                      have q5' := HH.out.2.2.2.2.2.2.trans q5
                      have b0 := obj_cell oS5 0
                      have b1 := obj_cell oS5 1
                      have b2 := obj_cell oS5 2
                      have b3 := obj_cell oS5 3
                      have b4 := obj_cell oS5 4
                      simp only [List.getElem?_toArray, List.getElem?_cons_zero, List.getElem?_cons_succ] at b0 b1 b2 b3 b4
                      have y1 := q5.keep z2'
                      have y0 := q5.keep z1'
                      replace cT := fun wB' (q' : B w5 wB') => cT wB' (q5.trans q')
                      have qd : B w5 w5.drew := (B.refl _).drew
                      clear z1' z2' oS hO q5 q8
                      go_wp2_with fail
                      refine wp_region_noPanic ?_
                      refine wp_region_gate (S := fun w' => w'.cell? ⟨S, 0, none⟩ = some (.int .i64 K) ∧ w'.cell? ⟨S, 1, none⟩ = some (.string N9) ∧ w'.cell? ⟨S, 2, none⟩ = some (.slice so9 wl sc9) ∧ w'.cell? ⟨S, 3, none⟩ = some (.int .i64 V) ∧ w'.cell? ⟨S, 4, none⟩ = some (.int .i64 M) ∧ w'.cell? ⟨g2, i9 * 2 + 1, none⟩ = some (.string YS) ∧ B w5 w') 13 [(0, 0), (1, 3), (2, 3), (3, 3), (4, 3), (5, 3), (6, 3), (7, 3), (8, 3), (9, 3), (10, 3), (11, 3), (12, 0), (13, 4), (14, 3), (15, 3), (16, 3), (17, 4), (18, 3)] [0, 0, 0, 0, 8, 20, 32, 66, 0, 0, 768, 1024, 2048, 4225, 8192, 16384, 16384, 65535, 262143] [0, 0, 0, 0, 8, 20, 32, 66, 0, 0, 768, 1024, 2048, 4225, 8192, 16384, 16384, 32768, 65536] [516097, 0, 0, 0, 0, 0, 0, 0, 0, 0, 0, 0, 520192, 0, 0, 0, 0, 0, 0] (by kernel_rfl) (by kernel_rfl) (fun _ _ _ _ _ h => h) ?_ (fun hH => ?_)
                      · exact ⟨qd.keep b0, qd.keep b1, qd.keep b2, qd.keep b3, qd.keep b4, qd.keep y1, qd⟩
                      refine wpSeqG_take (d := 110) (v := ?_) rfl rfl (by kernel_rfl) (fun w hS => ?_) ?_
                      rotate_left
                      · go_simp <;> with_reducible rfl
                      dsimp only [List.set_cons_zero, List.set_cons_succ]
                      refine wpSeqG_free (d := 111) (v := ?_) rfl rfl (by kernel_rfl) (fun w => ?_) ?_
                      rotate_left
                      · go_simp <;> with_reducible rfl
                      dsimp only [List.set_cons_zero, List.set_cons_succ]
                      refine wpSeqG_free (d := 112) (v := ?_) rfl rfl (by kernel_rfl) (fun w => ?_) ?_
                      rotate_left
                      · go_simp <;> with_reducible rfl
                      dsimp only [List.set_cons_zero, List.set_cons_succ]
                      refine wpSeqG_free (d := 113) (v := ?_) rfl rfl (by kernel_rfl) (fun w => ?_) ?_
                      rotate_left
                      · go_simp <;> with_reducible rfl
                      dsimp only [List.set_cons_zero, List.set_cons_succ]
                      refine wpSeqG_free (d := 114) (v := ?_) rfl rfl (by kernel_rfl) (fun w => ?_) ?_
                      rotate_left
                      · go_simp <;> with_reducible rfl
                      dsimp only [List.set_cons_zero, List.set_cons_succ]
                      refine wpSeqG_free (d := 115) (v := ?_) rfl rfl (by kernel_rfl) (fun w => ?_) ?_
                      rotate_left
                      · go_simp <;> with_reducible rfl
                      dsimp only [List.set_cons_zero, List.set_cons_succ]
                      refine wpSeqG_free (d := 116) (v := ?_) rfl rfl (by kernel_rfl) (fun w => ?_) ?_
                      rotate_left
                      · go_simp <;> with_reducible rfl
                      dsimp only [List.set_cons_zero, List.set_cons_succ]
                      refine wpSeqG_free (d := 117) (v := ?_) rfl rfl (by kernel_rfl) (fun w => ?_) ?_
                      rotate_left
                      · go_simp <;> with_reducible rfl
                      dsimp only [List.set_cons_zero, List.set_cons_succ]
                      refine wpSeqG_free (d := 118) (v := ?_) rfl rfl (by kernel_rfl) (fun w => ?_) ?_
                      rotate_left
                      · go_simp <;> with_reducible rfl
                      dsimp only [List.set_cons_zero, List.set_cons_succ]
                      refine wpSeqG_free (d := 119) (v := ?_) rfl rfl (by kernel_rfl) (fun w => ?_) ?_
                      rotate_left
                      · go_simp <;> with_reducible rfl
                      dsimp only [List.set_cons_zero, List.set_cons_succ]
                      refine wpSeqG_free (d := 120) (v := ?_) rfl rfl (by kernel_rfl) (fun w => ?_) ?_
                      rotate_left
                      · go_simp <;> with_reducible rfl
                      dsimp only [List.set_cons_zero, List.set_cons_succ]
                      refine wpSeqG_free (d := 121) (v := ?_) rfl rfl (by kernel_rfl) (fun w => ?_) ?_
                      rotate_left
                      · go_simp <;> with_reducible rfl
                      dsimp only [List.set_cons_zero, List.set_cons_succ]
                      refine wpSeqG_take (d := 122) (v := ?_) rfl rfl (by kernel_rfl) (fun w hS => ?_) ?_
                      rotate_left
                      · go_simp <;> with_reducible rfl
                      dsimp only [List.set_cons_zero, List.set_cons_succ]
                      refine wpSeqG_gate rfl (by kernel_rfl) (fun K hK => ?_)
                      go_simp
                      (with_reducible refine (cT _ hH.2.2.2.2.2.2).mono ?_)
                      rintro e w7 ⟨s7, wv7, rfl, hrow7, hs7, hT7⟩
                      obtain ⟨K7, N7, WS7, V7, M7⟩ := s7
                      simp only at hrow7
                      obtain ⟨so7, sc7, rfl⟩ := own_slice hrow7
                      obtain ⟨wl7, hwl7⟩ : ∃ wl7, WS7.length = wl7 := ⟨_, rfl⟩
                      have oS7 := hT7.objc (hH.2.2.2.2.2.2.obj oS5) (by decide)
                      have hO7 := own_tnU (row_keep hO5 hH.2.2.2.2.2.2) hT7 (by decide)
                      have q7 := hT7.toB (q5'.trans hH.2.2.2.2.2.2) (Nat.le_refl _)
                      have v0 := obj_cell oS7 0
                      have v1 := obj_cell oS7 1
                      have v2 := obj_cell oS7 2
                      have v3 := obj_cell oS7 3
                      have v4 := obj_cell oS7 4
                      have f0 := obj_free oS7 0
                      have f1 := obj_free oS7 1
                      have f2 := obj_free oS7 2
                      have f3 := obj_free oS7 3
                      have f4 := obj_free oS7 4
                      simp only [List.getElem?_toArray, List.getElem?_cons_zero, List.getElem?_cons_succ] at v0 v1 v2 v3 v4
                      have hrow7' := hrow7
                      rw [hwl7] at hrow7'
                      simp only [hwl7]
                      try simp only [Act.put, List.setIfInBounds_toArray, List.set_cons_zero, List.set_cons_succ]
                      refine hK.out _ _ ?_
                      clear hK
                      refine wpSeqG_free (d := 109) (v := ?_) rfl rfl (by kernel_rfl) (fun w => ?_) ?_
                      rotate_left
                      · go_simp <;> with_reducible rfl
                      dsimp only [List.set_cons_zero, List.set_cons_succ]
                      refine wpSeqG_free (d := 124) (v := ?_) rfl rfl (by kernel_rfl) (fun w => ?_) ?_
                      rotate_left
                      · go_simp <;> with_reducible rfl
                      dsimp only [List.set_cons_zero, List.set_cons_succ]
                      refine wpSeqG_free (d := 125) (v := ?_) rfl rfl (by kernel_rfl) (fun w => ?_) ?_
                      rotate_left
                      · go_simp <;> with_reducible rfl
                      dsimp only [List.set_cons_zero, List.set_cons_succ]
                      refine wpSeqG_gate rfl (by kernel_rfl) (fun K hK => ?_)
                      go_simp
                      refine hK.out _ _ ?_
                      clear hK
                      refine wpSeqG_free (d := 16) (v := ?_) rfl rfl (by kernel_rfl) (fun w => ?_) ?_
                      rotate_left
                      · go_simp <;> with_reducible rfl
                      dsimp only [List.set_cons_zero, List.set_cons_succ]
                      refine wpSeqG_done ?_
                      refine NoPanic.normal ?_
                      have oS8 := obj_five oS7 (.int .i64 K7) (.string N7) (.slice so7 wl7 sc7) (.int .i64 V7) (.int .i64 M7)
                      have hrow8 := row_five hrow7' oS7 (by decide) (.int .i64 K7) (.string N7) (.slice so7 wl7 sc7) (.int .i64 V7) (.int .i64 M7)
                      have hO8 := row_five hO7 oS7 (by decide) (.int .i64 K7) (.string N7) (.slice so7 wl7 sc7) (.int .i64 V7) (.int .i64 M7)
                      have q8 := b_five q7 (by have := hSb.out; omega) (.int .i64 K7) (.string N7) (.slice so7 wl7 sc7) (.int .i64 V7) (.int .i64 M7)
                      have y8 := (HN.out.2.2.2.2.2.1.trans q8)
                      generalize (((((w7.setCell ⟨S, 0, none⟩ (.int .i64 K7)).setCell ⟨S, 1, none⟩ (.string N7)).setCell ⟨S, 2, none⟩ (.slice so7 wl7 sc7)).setCell ⟨S, 3, none⟩ (.int .i64 V7)).setCell ⟨S, 4, none⟩ (.int .i64 M7)) = W8 at *
                      clear v0 v1 v2 v3 v4 f0 f1 f2 f3 f4 b0 b1 b2 b3 b4 y1 hrow7 hrow7' oS7 hO7 q7 oS5 hO5 q5' hT7 hH cT qd hmI wmj hmp hmpN hm0 hg hpz
                      have y9 := y8.keep HZ1.out
                      by_cases hE0 : E = 0
                      · have hEB : ((E : Int) != 0) = false := by simp; omega
                        have hss := hs7 hE0
                        have hU8 : StepU W8 wi.heap.size S s' (.slice so7 wl7 sc7) := by
                          rw [← hss]
                          exact ⟨oS8, by show W8.ownsRow _ _ _ _ WS7.length _; rw [hwl7]; exact hrow8⟩
                        have qn : B W8 (W8.alloc (.cells #[.int .i64 (YA : Int)] 3)) := (B.refl _).alloc _ _
                        have own8 := row_keep hO8 qn
                        have hb8 : wi.heap.size ≤ (W8.alloc (.cells #[.int .i64 (YA : Int)] 3)).heap.size := by have := q8.below.size; have := qn.below.size; omega
                        have HP := Lib.hid (And.intro (hU8.keep qn) (q8.trans qn))
                        have HR := Lib.hid (And.intro HH.out.1 (And.intro HH.out.2.1 hE0))
                        clear hU8 qn oS8 hrow8 hO8 q8 y8 hss hs7 hwl7 hE0
                        go_wp2_with (at_builtin; refine wpList_append_lies _ rfl _ _ 88 rfl wi.heap.size 3 i2 _ 1 8 Tryd.underlying88 hi2 hx0 hx1 hx2 rfl (by omega) (.slice (some ⟨g3, 0, none⟩) i9 c3) i9 (flatI (((x :: ws).take i9).map (·.1))) rfl own8 ⟨_, 0, none⟩ 1 1 [.int .i64 (YA : Int)] rfl rfl (newest rfl) (fun u hu => by simp at hu; rw [hu]; rfl) (by omega) (by unfold maxLen; omega) (by omega) hb8 _ rfl ?_; intro g4 c4 W9 hown9 hgrow9 hat9 hlt9; have hU9 : StepU W9 wi.heap.size S s' (.slice so7 wl7 sc7) := ⟨obj_grown hgrow9 HP.out.1.obj (far_ownU HP.out.1.obj own8 (by decide)), own_grownU HP.out.1.row hgrow9 own8 (by decide)⟩; have q99 := HP.out.2.grownBy hgrow9 (fun x hx => (own8.lt x hx).1); rw [HH.out.2.2.2.2.2.1] at hown9; clear hgrow9 hat9 hlt9 own8 hb8; replace hU9 := Lib.hid hU9; replace q99 := Lib.hid q99; go_wp2_with fail)
                        exact ⟨⟨j9 + 1, i9 + 1, s', .slice so7 wl7 sc7, g4, c4, by have := hij'.out; omega, by have := HH.out.2.2.2.2.1; omega, by go_num, rfl, by rw [← HR.out.1, HR.out.2.1, if_pos HR.out.2.2], by have h1 := HH.out.2.2.1; have h2 := HH.out.2.2.2.1; omega, hU9.out, hown9, q99.out⟩, by simp [intOf]; omega⟩
                      · have hEB : ((E : Int) != 0) = true := by simp; omega
                        have HE : Hid (parseP LL [] = .error (YA, E)) := Lib.hid (parse_err HN.out.2.2.2.2.1 (by rw [hLk.out, ← HH.out.1, HH.out.2.1, if_neg hE0]))
                        have HQ := Lib.hid y8
                        clear oS8 hrow8 hO8 q8 y8 hs7 hwl7 hE0
                        go_wp2_with fail
                        go_quiet (fail)
                        go_wp2
                        try simp only [Exit.inBlock, Exit.then]
                        refine bodyPost_ret (results_tmp4 rfl _ _ _) rfl ?_
                        exact protoRes_err HE.out (HQ.out.drewN _)
                    · have hlB : decide ((i9 : Int) < (n : Int)) = false := decide_eq_false (by omega)
                      have hlN : decide (i9 < n) = false := decide_eq_false hl
                      have hi9 : i9 = n := by have := hnm.out; omega
                      have hjm : j9 = m := by have := hnm.out; omega
                      subst hi9
                      have hLok : LP = .ok s := by rw [hLk.out, ← hread, List.drop_eq_nil_of_le (by have := HXN.out.2.1; omega)]; rfl
                      rw [List.take_of_length_le (by rw [HXN.out.1]; omega)] at hO
                      obtain ⟨K, N9, WS, V, M⟩ := s
                      obtain ⟨oS, hrow⟩ := hU
                      simp only at oS hrow
                      obtain ⟨so9, sc9, rfl⟩ := own_slice hrow
                      obtain ⟨wl, hwl⟩ : ∃ wl, WS.length = wl := ⟨_, rfl⟩
                      rw [hwl] at oS hrow
                      have p0 := obj_cell oS 0
                      have p1 := obj_cell oS 1
                      have p2 := obj_cell oS 2
                      have p3 := obj_cell oS 3
                      have p4 := obj_cell oS 4
                      simp only [List.getElem?_toArray, List.getElem?_cons_zero, List.getElem?_cons_succ] at p0 p1 p2 p3 p4
                      have q24 : B w4 (w4.alloc (.cells #[.int .i64 K, .string N9, .slice so9 wl sc9, .int .i64 V, .int .i64 M] 47)) := (B.refl _).alloc _ _
                      have hSt1 := HN.out.1.keep (q8.trans q24)
                      have own1 := hSt1.so
                      rw [HN.out.2.1] at own1
                      have hrow4 := own_lowU (base' := R) (row_keep hrow q24) (by have := HN.out.2.2.2.2.2.1.below.size; have := hRB.out; omega)
                      have hO4 := own_lowU (base' := R) (row_keep hO q24) (by have := HN.out.2.2.2.2.2.1.below.size; have := hRB.out; omega)
                      have hB4 := HN.out.2.2.2.2.2.1.trans (q8.trans q24)
                      have hb1 : R ≤ (w4.alloc (.cells #[.int .i64 K, .string N9, .slice so9 wl sc9, .int .i64 V, .int .i64 M] 47)).heap.size := by have := hB4.below.size; have := hRB.out; omega
                      have hns' : ns ≤ 200 := HN.out.2.2.2.1
                      have hns'' := (lineP_had (HLP.out.trans hLok)).1
                      have HW := Lib.hid (And.intro hSt1 (And.intro hrow4 (And.intro hB4 (And.intro hwl (And.intro hO4 (And.intro hns'' (And.intro hLok HN.out.2.2.2.2.1)))))))
                      have hnp : np ≤ 65536 := by have := HN.out.2.2.1; have := placesP_len (LL.take i); rw [List.length_take] at this; omega
                      have hpk : Hid (parseP LL [] = parseP (LL.drop (i + 1)) (S_ ++ [⟨K, N9, WS, V, M⟩])) := Lib.hid (by rw [HN.out.2.2.2.2.1, hLok])
                      clear q24 hSt1 hrow4 hB4 hrow q8 hwl oS hO hO4 hread hlen hLok hij hj hl hjm hns''
                      go_wp2_with (at_builtin; refine wpList_append_lies _ rfl _ _ 30 rfl R 47 i0 _ 5 64 Tryd.underlying30 hi0 hz0 hz1 hz2 rfl (by omega) (.slice so ns sc) ns (flatSp S_ vs) rfl own1 ⟨_, 0, none⟩ 1 1 [.int .i64 K, .string N9, .slice so9 wl sc9, .int .i64 V, .int .i64 M] rfl rfl (newest rfl) (fun u hu => by simp only [List.mem_cons, List.not_mem_nil, or_false] at hu; rcases hu with rfl | rfl | rfl | rfl | rfl <;> rfl) (by omega) (by unfold maxLen; omega) (by omega) hb1 _ rfl ?_; intro g1 c1 W5 hown5 hgrow5 hat5 hlt5; have hSt5 := StP.addS (s := ⟨K, N9, WS, V, M⟩) HW.out.1 hgrow5 (by rw [HN.out.2.1]; exact hown5) (by rw [HW.out.2.2.2.1]; exact HW.out.2.1); have hB5 := HW.out.2.2.1.grownBy hgrow5 (fun x hx => (by rw [hRB.out]; exact (own1.lt x hx).1)); have hO5 := own_grownU HW.out.2.2.2.2.1 hgrow5 own1 (by decide); clear hgrow5 hat5 hlt5 own1 hown5 hb1 p0 p1 p2 p3 p4; have q56 : B W5 (W5.alloc (.cells #[.slice (some ⟨g3, 0, none⟩) i9 c3] 88)) := ((B.refl _).alloc _ _); have hSt6 := hSt5.keep q56; have own6 := hSt6.po; rw [HN.out.2.2.1] at own6; have hO6 := row_keep hO5 q56; have hB6 := hB5.trans q56; have hb6 : R ≤ (W5.alloc (.cells #[.slice (some ⟨g3, 0, none⟩) i9 c3] 88)).heap.size := (by have := hB6.below.size; have := hRB.out; omega); have HV := Lib.hid (And.intro hSt6 (And.intro hO6 hB6)); clear hSt5 hB5 hO5 q56 hSt6 hO6 hB6; go_wp2_with (at_builtin; refine wpList_append_lies _ rfl _ _ 52 rfl R 88 i1 _ 1 24 Tryd.underlying52 hi1 hy0 hy1 hy2 rfl (by omega) (.slice po np pc) np us rfl own6 ⟨_, 0, none⟩ 1 1 [.slice (some ⟨g3, 0, none⟩) i9 c3] rfl rfl (newest rfl) (fun u hu => by simp at hu; rw [hu]; rfl) (by omega) (by unfold maxLen; omega) (by omega) hb6 _ rfl ?_; intro g9 c9 W7 hown7 hgrow7 hat7 hlt7; have hSt7 := StP.addP (l := (x :: ws).map (·.1)) HV.out.1 hgrow7 (by rw [HN.out.2.2.1]; exact hown7) (by rw [List.length_map, HXN.out.1]; exact HV.out.2.1); have hB7 := HV.out.2.2.grownBy hgrow7 (fun x hx => (by rw [hRB.out]; exact (own6.lt x hx).1)); clear hgrow7 hat7 hlt7 own6 hown7 hb6; replace hSt7 := Lib.hid (And.intro hSt7 hB7); clear hB7; go_wp2_with fail))
                      refine ⟨⟨i + 1, ns + 1, np + 1, some ⟨g1, 0, none⟩, some ⟨g9, 0, none⟩, c1, c9, S_ ++ [⟨K, N9, WS, V, M⟩], _, _, by have := HN.out.2.2.2.2.2.2.1; omega, by go_num, rfl, rfl, by rw [HN.out.2.2.2.2.2.2.2.1]; exact hSt7.out.1, by rw [List.length_append, HN.out.2.1]; rfl, by rw [HN.out.2.2.2.2.2.2.2.1, List.length_append, HN.out.2.2.1]; rfl, by have := HW.out.2.2.2.2.2.1; omega, hpk.out, hSt7.out.2⟩, ?_⟩
                      have := HN.out.2.2.2.2.2.2.1
                      simp [intOf]
                      omega
    · have hlB : decide ((i : Int) < (ln : Int)) = false := decide_eq_false (by omega)
      have hlN : decide (i < ln) = false := decide_eq_false hl
      rw [List.take_of_length_le (by omega)] at hSt hPn
      rw [List.drop_eq_nil_of_le (by omega)] at hpar
      have HZ := Lib.hid (And.intro hpar (And.intro hSt q))
      clear hpar hSt q hl hi hSn hPn hn2
      go_wp2
      try simp only [Exit.inBlock, Exit.then]
      refine bodyPost_ret (results_tmp4 rfl _ _ _) rfl ?_
      exact protoRes_ok HZ.out.1 HZ.out.2.1 HZ.out.2.2
end Go.Proofs.YthlileddhgglnaaDoor
