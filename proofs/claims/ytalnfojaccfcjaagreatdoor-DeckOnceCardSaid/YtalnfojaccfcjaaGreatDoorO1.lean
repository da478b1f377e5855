/-
  A law and what it rests on.
-/
import Derived.Deep.QuietTactic
import Derived.BigQuiet
import Derived.Test.YtalnfojaccfcjaaGreatDoorY21
namespace Go.Proofs.YtalnfojaccfcjaaGreatDoor
open Go.RowKit
set_option linter.unusedVariables false

set_option maxHeartbeats 2000000 in
theorem sections_len (v1 v2 : Value) (l m : List Sec) (w : World) (h1 : IsSecs w v1 l) (h2 : IsSecs w v2 m) (hne : l.length ≠ m.length) : Calls Tryz.prog 42 #[v1, v2] w fun e w' => e = .returned (.bool false) ∧ Dr w w' := by
  obtain ⟨ao, ac, rfl⟩ := secs_form h1
  obtain ⟨bo, bc, rfl⟩ := secs_form h2
  have t : ((l.length : Int) != (m.length : Int)) = true := by simp; omega
  have t' : (l.length != m.length) = true := by simpa using hne
  have t2 : ((l.length : Int) == (m.length : Int)) = false := by simp; omega
  have t3 : (l.length == m.length) = false := by simpa using hne
  clear h1 h2 hne
  generalize l.length = x at *
  generalize m.length = y at *
  go_enter Tryz.func42, Tryz.ntmps42
  go_wp2
  go_ret
  exact ⟨rfl, Dr.refl _⟩
set_option maxHeartbeats 8000000 in
theorem sections_ne (v1 v2 : Value) (l m : List Sec) (w : World) (h1 : IsSecs w v1 l) (h2 : IsSecs w v2 m) (hlm : l.length = m.length) (hne0 : l ≠ m) : Calls Tryz.prog 42 #[v1, v2] w fun e w' => e = .returned (.bool false) ∧ Dr w w' := by
  obtain ⟨ao, ac, rfl⟩ := secs_form h1
  obtain ⟨bo, bc, rfl⟩ := secs_form h2
  have hlen := secs_len h1
  obtain ⟨n, hn⟩ : ∃ n, l.length = n := ⟨_, rfl⟩
  have hm : m.length = n := by omega
  rw [hn] at h1 hlen ⊢
  rw [hm] at h2 ⊢
  clear hlm
  go_enter Tryz.func42, Tryz.ntmps42
  go_wp2
  go_loopw [5] (fun iv wr => ∃ i : Nat, i ≤ n ∧ iv = .int .i64 i ∧ (∀ j, j < i → l[j]? = m[j]?) ∧ Dr w wr) (fun iv _ => n + 1 - (intOf iv).toNat)
  case atStart => exact ⟨0, by omega, rfl, fun j h => by omega, Dr.refl _⟩
  case round =>
    obtain ⟨i, hi, rfl, hsame, hD⟩ := hrel
    obtain ⟨wo, rfl⟩ : ∃ wo : World, wo = wr := ⟨_, rfl⟩
    by_cases hl : i < n
    · have hlB : decide ((i : Int) < (n : Int)) = true := decide_eq_true (by omega)
      have hlN : decide (i < n) = true := decide_eq_true hl
      have hlI : (i : Int) < (n : Int) := by omega
      have hi0 : (0 : Int) ≤ (i : Int) := by omega
      have wk1 : IntKind.i64.wrap ((i : Int) + 1) = (i : Int) + 1 := by rw [IntKind.wrap_i64]; omega
      obtain ⟨F, hF⟩ : ∃ F, l[i]? = some F := ⟨_, List.getElem?_eq_getElem (by omega)⟩
      obtain ⟨K, hK⟩ : ∃ K, m[i]? = some K := ⟨_, List.getElem?_eq_getElem (by omega)⟩
      rw [← hn] at h1
      rw [← hm] at h2
      obtain ⟨a, e1, g1⟩ := secs_at (h1.keepB hD.q.b) hF
      obtain ⟨b, e2, g2⟩ := secs_at (h2.keepB hD.q.b) hK
      obtain ⟨rfl, _⟩ : ao = some a ∧ True := by simpa using e1
      obtain ⟨rfl, _⟩ : bo = some b ∧ True := by simpa using e2
      have hnext : F = K → ∀ j, j < i + 1 → l[j]? = m[j]? := fun e j hj => by
        by_cases h : j = i
        · subst h
          rw [hF, hK, e]
        · exact hsame j (by omega)
      obtain ⟨a0, a1, a2, a3, a4, a5⟩ := g1
      obtain ⟨b0, b1, b2, b3, b4, b5⟩ := g2
      have HL := Lib.hid hl
      replace hD := Lib.hid hD
      by_cases hne : F = K
      · have HN := Lib.hid (hnext hne)
        subst hne
        clear hnext hsame hF hK e1 e2 h1 h2 hl
        obtain ⟨x0, x1, x2, x3, x4, x5⟩ := F
        simp only at a0 a1 a2 a3 a4 a5 b0 b1 b2 b3 b4 b5
        go_wp2_with fail
        go_quiet (fail)
        go_wp2
        go_roundw
        case rel => exact ⟨i + 1, by have := HL.out; omega, by go_num, HN.out, hD.out.trans ⟨_, rfl⟩⟩
        case measure => have := HL.out; simp [intOf]; omega
      · clear hnext hsame hF hK e1 e2 h1 h2 hl
        obtain ⟨x0, x1, x2, x3, x4, x5⟩ := F
        obtain ⟨y0, y1, y2, y3, y4, y5⟩ := K
        simp only at a0 a1 a2 a3 a4 a5 b0 b1 b2 b3 b4 b5
        obtain ⟨c0, t0⟩ : ∃ c, (x0 == y0) = c := ⟨_, rfl⟩
        obtain ⟨c1, t1⟩ : ∃ c, (x1 == y1) = c := ⟨_, rfl⟩
        obtain ⟨c2, t2⟩ : ∃ c, (x2 == y2) = c := ⟨_, rfl⟩
        obtain ⟨c3, t3⟩ : ∃ c, (x3 == y3) = c := ⟨_, rfl⟩
        obtain ⟨c4, t4⟩ : ∃ c, (x4 == y4) = c := ⟨_, rfl⟩
        obtain ⟨c5, t5⟩ : ∃ c, (x5 == y5) = c := ⟨_, rfl⟩
        cases c0
        · clear hne
          go_wp2_with fail
          go_quiet (fail)
          go_wp2
          go_ret
          exact ⟨rfl, hD.out.trans ⟨_, rfl⟩⟩
        · cases c1
          · clear hne
            go_wp2_with fail
            go_quiet (fail)
            go_wp2
            go_ret
            exact ⟨rfl, hD.out.trans ⟨_, rfl⟩⟩
          · cases c2
            · clear hne
              go_wp2_with fail
              go_quiet (fail)
              go_wp2
              go_ret
              exact ⟨rfl, hD.out.trans ⟨_, rfl⟩⟩
            · cases c3
              · clear hne
                go_wp2_with fail
                go_quiet (fail)
                go_wp2
                go_ret
                exact ⟨rfl, hD.out.trans ⟨_, rfl⟩⟩
              · cases c4
                · clear hne
                  go_wp2_with fail
                  go_quiet (fail)
                  go_wp2
                  go_ret
                  exact ⟨rfl, hD.out.trans ⟨_, rfl⟩⟩
                · cases c5
                  · clear hne
                    go_wp2_with fail
                    go_quiet (fail)
                    go_wp2
                    go_ret
                    exact ⟨rfl, hD.out.trans ⟨_, rfl⟩⟩
                  · exfalso
                    refine hne ?_
                    simp only [beq_iff_eq] at t0 t1 t2 t3 t4 t5
                    subst t0 t1 t2 t3 t4 t5
                    rfl
    · exfalso
      refine hne0 (List.ext_getElem? fun j => ?_)
      by_cases h : j < n
      · exact hsame j (by omega)
      · rw [List.getElem?_eq_none (by omega), List.getElem?_eq_none (by omega)]
theorem sections_dec (v1 v2 : Value) (l m : List Sec) (w : World) (h1 : IsSecs w v1 l) (h2 : IsSecs w v2 m) : Calls Tryz.prog 42 #[v1, v2] w fun e w' => e = .returned (.bool (decide (l = m))) ∧ Dr w w' := by
  by_cases h : l = m
  · subst h
    rw [decide_eq_true rfl]
    exact sections_any v1 v2 l w h1 h2
  · rw [decide_eq_false h]
    by_cases hl : l.length = m.length
    · exact sections_ne v1 v2 l m w h1 h2 hl h
    · exact sections_len v1 v2 l m w h1 h2 hl
end Go.Proofs.YtalnfojaccfcjaaGreatDoor
namespace Go.Proofs.YtalnfojaccfcjaaGreatDoor
open Go.RowKit
set_option linter.unusedVariables false

theorem slInfo : (Tryz.prog.info? 31).map (fun i => (i.zero, i.size, i.bytes)) = some (some (.slice none 0 0), 1, 24) := by kernel_rfl
theorem indexC_some : ∀ (ws : List Wr) (K : Int) (n : ByteArray) (r c : Int), (∃ w ∈ ws, hasB w.n w.x w.y n r c = true) → ∃ k, indexC ws K n r c = some k
  | [], _, _, _, _, h => by obtain ⟨w, h, _⟩ := h; cases h
  | w :: ws, K, n, r, c, h => by
    rw [indexC]
    by_cases hb : hasB w.n w.x w.y n r c = true
    · rw [if_pos hb]
      exact ⟨_, rfl⟩
    · rw [if_neg hb]
      obtain ⟨v, hv, e⟩ := h
      rcases List.mem_cons.1 hv with rfl | hv
      · exact absurd e hb
      · exact indexC_some ws _ n r c ⟨v, hv, e⟩
theorem name_one {ok : Wr → Bool} {ws : List Wr} (hA : apartW ok ws = true) {i j : Nat} {a b : Wr} (ha : ws[i]? = some a) (hb : ws[j]? = some b) (h : a.n = b.n) : a = b := by
  have key : ∀ {i j : Nat} {a b : Wr}, ws[i]? = some a → ws[j]? = some b → i < j → a.n ≠ b.n := fun {i j a b} ha hb hij he => by
    have hap := (apart_at hA hb).2
    unfold namedW at hap
    rw [List.any_eq_false] at hap
    have := hap a (List.mem_of_getElem? (show (ws.take j)[i]? = some a by rw [List.getElem?_take, if_pos hij]; exact ha))
    rw [he] at this
    simp at this
  rcases Nat.lt_trichotomy i j with hij | hij | hij
  · exact absurd h (key ha hb hij)
  · subst hij
    exact Option.some.inj (ha.symm.trans hb)
  · exact absurd h.symm (key hb ha hij)
set_option maxRecDepth 100000 in
set_option maxHeartbeats 8000000 in
theorem once_law (a b c d : Int) (lv : Value) (bs : List UInt8) (ha : (Lit.int .u8 a).wf = true) (hb : (Lit.int .u8 b).wf = true) (hc : (Lit.int .u8 c).wf = true) (hd : (Lit.int .u8 d).wf = true) (w : World) (hU : IsU8s w lv bs) (hp : Pow10 w) :
    Calls Tryz.prog 6 #[.int .u8 a, .int .u8 b, .int .u8 c, .int .u8 d, lv] w fun e w' => e = .returned (.bool true) ∧ B w w' := by
  have cK := known11_any w hp
  replace ha := u8_wf ha
  replace hb := u8_wf hb
  replace hc := u8_wf hc
  replace hd := u8_wf hd
  obtain ⟨lo, lc, lb, lof, rfl, hIB⟩ := hU
  obtain ⟨mL, hmL⟩ : ∃ mL, bs.length = mL := ⟨_, rfl⟩
  rw [hmL]
  have hcD := fun w => deck_any a b c d (.slice none 0 0) [] (by simp) ha hb hc hd w (isU32s_nil w)
  have hR := seat_right ha hb hc hd []
  have hfl : (seatD a b c d []).fs.length < 1000 := by simp [seatD, fillsF]
  have hnW : 1 ≤ (seatD a b c d []).ws.length := by simp [seatD, wares7]
  have hnot : ∀ (x : Bool) (w : World), (Op.unary .not (.bool x)).run Tryz.prog w = .ok (.bool (!x)) w := fun _ _ => rfl
  generalize seatD a b c d [] = D at *
  have hmax := hIB.max
  have hlele := hIB.le
  have hmI : (mL : Int) ≤ 9223372036854775807 := by unfold maxLen at hmax; omega
  go_enter Tryz.func6, Tryz.ntmps6
  go_wp2_with fail
  refine cK.mono ?_
  rintro e w0 ⟨rfl, b0⟩
  clear cK
  by_cases h40 : 40 < mL
  · have t : decide ((40 : Int) < (mL : Int)) = true := decide_eq_true (by omega)
    have t' : decide (40 < mL) = true := decide_eq_true h40
    clear hcD hIB
    go_wp2
    go_ret
    exact ⟨rfl, b0⟩
  have t : decide ((40 : Int) < (mL : Int)) = false := decide_eq_false (by omega)
  have t' : decide (40 < mL) = false := decide_eq_false h40
  go_wp2_with fail
  refine (hcD _).mono ?_
  rintro e w1 ⟨wv, tv, fv, rfl, hD, q1⟩
  obtain ⟨xao, xac, xbo, xbc, xco, xcc, rfl, rfl, rfl⟩ := hD.forms
  have q1b : B w1 (w1.alloc (.cells #[.slice xao D.ws.length xac, .slice xbo D.ts.length xbc, .slice xco D.fs.length xcc] 26)) := (B.refl _).alloc _ _
  have oX := obj_new w1 (.cells #[.slice xao D.ws.length xac, .slice xbo D.ts.length xbc, .slice xco D.fs.length xcc] 26)
  have hDb := hD.keepB q1b
  have b1 := (b0.trans q1).trans q1b
  clear hcD hD q1 b0 t t'
  obtain ⟨nW, hnWe⟩ : ∃ nW, D.ws.length = nW := ⟨_, rfl⟩
  obtain ⟨nT, hnTe⟩ : ∃ nT, D.ts.length = nT := ⟨_, rfl⟩
  obtain ⟨nF, hnFe⟩ : ∃ nF, D.fs.length = nF := ⟨_, rfl⟩
  rw [hnWe, hnTe, hnFe] at q1b oX hDb b1 ⊢
  rw [hnWe] at hnW
  obtain ⟨p8, p4, pW, pT⟩ := right_parts9 hR
  rw [hnWe] at p8
  rw [hnTe] at p4
  go_wp2_with fail
  have cN := dnew_right _ _ _ D _ hDb hR hfl
  generalize w1.alloc (.cells #[.slice xao nW xac, .slice xbo nT xbc, .slice xco nF xcc] 26) = w1b at *
  generalize w1.heap.size = Xb at *
  clear q1b
  refine cN.mono ?_
  rintro e w2 ⟨P, X0, rfl, hPd, hM2, hlo2, htop2, q2⟩
  clear cN
  have hlow := hM2.low
  have hSlo : ∀ i, P.S i → w1b.heap.size ≤ i := fun i hi => by have := hlow.2 i hi; omega
  have hbm : w.heap.size ≤ P.bm := by have := b1.below.size; omega
  obtain ⟨k0, hk0e⟩ : ∃ k0, w2.heap.size = k0 := ⟨_, rfl⟩
  have hk0 : P.top ≤ k0 := by omega
  have hk0' : k0 ≤ P.top := by omega
  have hk1b : w1b.heap.size ≤ k0 := by rw [← hk0e]; exact q2.below.size
  have hnS : ∀ i, k0 ≤ i → ¬ P.S i := fun i hi => hM2.newS (by omega)
  have cT0 := dtables_any w2 hM2
  go_wp2_with fail
  refine cT0.mono ?_
  rintro e wz ⟨rfl, rfl⟩
  have hxw := wares_in pW
  go_wp2_with fail
  go_loopw [14, 15] (fun sv iv wr => ∃ (i : Nat) (n : Nat) (E : List Ent) (X : List Th) (vals : List Value), i ≤ mL ∧ iv = .int .i64 i ∧ BoardM P wr n E X ∧ wr.ownsRow k0 31 1 sv E.length vals ∧ (∀ (j : Nat) v e, vals[j]? = some v → E[j]? = some e → IsSecs w1b v e.l) ∧ (∀ g, sv.ownBlock = some g → ∀ e ∈ E, g < e.b ∨ e.hi ≤ g) ∧ B w1b wr) (fun _ iv _ => mL + 1 - (intOf iv).toNat)
  case atStart => exact ⟨0, 0, [], X0, [], Nat.zero_le _, rfl, hM2, World.ownsRow_nil _ _ _ _, fun j v e h => by simp at h, fun g h => by simp [Value.ownBlock] at h, q2⟩
  case round =>
    clear hM2 cT0 q2
    obtain ⟨i, n, E, X, vals, hi, rfl, hM, hrow, hval, hap, bwl⟩ := hrel
    obtain ⟨wl, rfl⟩ : ∃ wl : World, wl = wr := ⟨_, rfl⟩
    by_cases hl : i < mL
    · have hlB : decide ((i : Int) < (mL : Int)) = true := decide_eq_true (by omega)
      have hlN : decide (i < mL) = true := decide_eq_true hl
      have hi0 : (0 : Int) ≤ (i : Int) := by omega
      have hiI : (i : Int) < (mL : Int) := by omega
      have wk1 : IntKind.i64.wrap ((i : Int) + 1) = (i : Int) + 1 := by rw [IntKind.wrap_i64]; omega
      have hbi : bs[i]? = some bs[i] := List.getElem?_eq_getElem (by omega)
      have ya := (b1.trans bwl).keep (hIB.at_ i _ hbi)
      obtain rfl : lo = some ⟨lb, lof, none⟩ := hIB.ao (by omega)
      have hA255 : (bs[i]).toNat ≤ 255 := by have := (bs[i]).toNat_lt; omega
      clear hbi
      generalize (bs[i]).toNat = A at *
      obtain ⟨nS, hnS'⟩ : ∃ nS, nW + nT = nS := ⟨_, rfl⟩
      obtain ⟨kk, hkk⟩ : ∃ kk, A % nS = kk := ⟨_, rfl⟩
      have hkS : kk < nS := by rw [← hkk]; exact Nat.mod_lt _ (by omega)
      have m1 : IntKind.i64.wrap ((A : Nat) : Int) = (A : Int) := by rw [IntKind.wrap_i64]; omega
      have m2 : IntKind.i64.wrap ((nW : Int) + (nT : Int)) = (nS : Int) := by rw [IntKind.wrap_i64]; omega
      have m3 : ((A : Int)).tmod (nS : Int) = (kk : Int) := by rw [Int.tmod_eq_emod_of_nonneg (by omega), ← hkk]; exact (Int.natCast_emod A nS).symm
      have m4 : ¬ (nS : Int) = 0 := by omega
      have m5 : ((nS : Int) == 0) = false := by simp; omega
      have oXl := bwl.obj oX
      have x0 := obj_cell oXl 0
      have x1 := obj_cell oXl 1
      go_wp2_with fail
      go_quiet (fail)
      clear ya m1 m3 m4 m5 hA255 hkk oXl x0 x1
      have qn : B wl (wl.drewN nq) := (B.refl _).drewN _
      replace hM := hM.keepB qn
      replace hrow := own_keepBx hrow qn
      replace bwl := bwl.trans qn
      have zn := qn.below.size
      clear qn
      generalize wl.drewN nq = wl2 at *
      clear zn
      obtain ⟨wl, rfl⟩ : ∃ wl : World, wl = wl2 := ⟨_, rfl⟩
      have oXl := bwl.obj oX
      have x0 := obj_cell oXl 0
      have x1 := obj_cell oXl 1
      by_cases hk : kk < nW
      · have hkB : decide ((kk : Int) < (nW : Int)) = true := decide_eq_true (by omega)
        have hkN : decide (kk < nW) = true := decide_eq_true hk
        have hkI : (kk : Int) < (nW : Int) := by omega
        have hkp : (0 : Int) ≤ (kk : Int) := by omega
        have hr : D.ws[kk]? = some D.ws[kk] := List.getElem?_eq_getElem (by omega)
        obtain ⟨xa, xc, hxa, _, _, hrec⟩ := hDb.ws.at_ (i := kk) (by omega)
        rw [hnWe] at hxa
        simp only [Value.slice.injEq, true_and] at hxa
        obtain ⟨rfl, rfl⟩ := hxa
        have hwB := hxw _ (List.mem_of_getElem? hr)
        have hnz := (rightD_small hR).wn _ (List.mem_of_getElem? hr)
        generalize D.ws[kk] = r at *
        obtain ⟨RN, RX, RY, RZ, L⟩ := r
        obtain ⟨g0, _, _, _, v, g4, hsv0⟩ := hrec
        simp only at g0 g4 hsv0 hnz
        obtain ⟨vo, vc, rfl⟩ := hsv0.formL
        obtain ⟨b1', b2', b3', b4'⟩ := hwB
        obtain ⟨kq, hkq⟩ := indexC_some D.ws 0 RN 0 0 ⟨_, List.mem_of_getElem? hr, by
          unfold hasB
          simp only [beq_self_eq_true, Bool.true_and, Bool.and_eq_true, decide_eq_true_eq]
          simp only at b1' b3'
          omega⟩
        have cW := dwell_yes w wl (b1.trans bwl) hp hbm hM RN 0 0 hnz (by decide) (by decide) kq (by rw [hPd]; exact hkq)
        replace g0 := bwl.keep g0
        replace g4 := bwl.keep g4
        clear b1' b2' b3' b4' hkq oXl
        have HRr := Lib.hid hr
        clear hr hk hkS
        go_wp2_with fail
        refine cW.mono ?_
        rintro e wk ⟨i9, rc, p9, e0, n', E', X', hi9, hrn, rfl, hpp, hE, hM', hg⟩
        rw [hPd] at hi9
        obtain rfl : rc = ⟨RN, RX, RY, RZ, L⟩ := name_one pW hi9 HRr.out hrn
        simp only at hE
        have hsz := hg.size
        clear cW hi9 hrn hpp g0 g4 x0 x1 HRr
        obtain ⟨m, hm⟩ : ∃ m, E.length = m := ⟨_, rfl⟩
        have hmle : m ≤ 100 := by have := hM.n12; have := hM.few; omega
        have hrowk := own_on hrow (fun i h1 h2 => hg.block i h2 (hnS i h1))
        have hbk := hg.b bwl (fun i hi => hSlo i hi)
        rw [hm] at hrowk
        have hvl := hrowk.1
        have hvl' : vals.length = m := by omega
        have hsvk := hsv0.keepB hbk
        obtain ⟨so, sc, hsvf⟩ := ownsRow_form hrowk
        have HT := Lib.hid (And.intro hM' (And.intro hE (And.intro hrow (And.intro hval (And.intro hap (And.intro hl hbk))))))
        clear hM' hE hrow hval hap hl hg hM bwl
        subst hsvf
        go_wp2_with fail
        go_loopw [18, 19] (fun tv jv wr => ∃ j : Nat, j ≤ m ∧ jv = .int .i64 j ∧ tv = .bool ((E.take j).any fun e => decide (e.l = L)) ∧ Dr wk wr) (fun _ jv _ => m + 1 - (intOf jv).toNat)
        case atStart => exact ⟨0, Nat.zero_le _, rfl, rfl, Dr.refl _⟩
        case round =>
          obtain ⟨j, hj, rfl, rfl, hDr⟩ := hrel
          obtain ⟨wq, rfl⟩ : ∃ wq : World, wq = wr := ⟨_, rfl⟩
          by_cases hjl : j < m
          · have hlB2 : decide ((j : Int) < (m : Int)) = true := decide_eq_true (by omega)
            have hlN2 : decide (j < m) = true := decide_eq_true hjl
            have hj0 : (0 : Int) ≤ (j : Int) := by omega
            have hjI : (j : Int) < (m : Int) := by omega
            have wk2 : IntKind.i64.wrap ((j : Int) + 1) = (j : Int) + 1 := by rw [IntKind.wrap_i64]; omega
            have hej : E[j]? = some E[j] := List.getElem?_eq_getElem (by omega)
            have hvj : vals[j]? = some (vals[j]'(by omega)) := List.getElem?_eq_getElem _
            have hss := HT.out.2.2.2.1 j _ _ hvj hej
            have htake : (E.take (j + 1)).any (fun e => decide (e.l = L)) = ((E.take j).any (fun e => decide (e.l = L)) || decide (E[j].l = L)) := by rw [List.take_add_one, hej, List.any_append]; simp only [Option.toList, List.any_cons, List.any_nil, Bool.or_false]
            obtain ⟨uo, uc, huf⟩ := (hss).formL
            obtain ⟨g, cp, hsl, hgk, hglt⟩ := hrowk.form (by omega)
            simp only [Value.slice.injEq, true_and] at hsl
            obtain ⟨rfl, rfl⟩ := hsl
            have yc0 := (own_keepBx hrowk hDr.q.b).cellAt (j * 1) (by omega)
            rw [Nat.mul_one] at yc0
            have yc := yc0.trans hvj
            clear yc0
            have cS := sections_dec _ _ _ L wq (hss.keepB (HT.out.2.2.2.2.2.2.trans hDr.q.b)) (hsvk.keepB hDr.q.b)
            generalize vals[j] = vj at *
            subst huf
            generalize (E.take j).any (fun e => decide (e.l = L)) = tb at *
            generalize E[j].l = lj at *
            generalize decide (lj = L) = db at *
            have HJ := Lib.hid (And.intro hjl (And.intro hDr htake))
            clear hjl hDr htake hej hvj hss
            cases tb
            · go_wp2_with fail
              refine cS.mono ?_
              rintro e wz ⟨rfl, qz⟩
              go_wp2
              go_roundw
              case rel => exact ⟨j + 1, by have := HJ.out.1; omega, by go_num, by rw [HJ.out.2.2]; rfl, HJ.out.2.1.trans qz⟩
              case measure => have := HJ.out.1; simp [intOf]; omega
            · go_wp2
              go_roundw
              case rel => exact ⟨j + 1, by have := HJ.out.1; omega, by go_num, by rw [HJ.out.2.2]; rfl, HJ.out.2.1⟩
              case measure => have := HJ.out.1; simp [intOf]; omega
          · have hlB2 : decide ((j : Int) < (m : Int)) = false := decide_eq_false (by omega)
            have hlN2 : decide (j < m) = false := decide_eq_false hjl
            rw [List.take_of_length_le (by omega)]
            obtain ⟨hM', hE, hrow, hval, hap, hl, hbk⟩ := HT.out
            have qD := hDr.q.b
            have hMq := hM'.keepB qD
            have cT := dtables_any wq hMq
            have hrowq := own_keepBx hrowk qD
            have bq := hbk.trans qD
            rcases hE.2.2 with hEE | ⟨hnew, hlow, hEE⟩
            · subst hEE
              have htb : E'.any (fun e => decide (e.l = L)) = true := List.any_eq_true.2 ⟨e0, hE.1, decide_eq_true hE.2.1⟩
              have mB : ((m : Int) != (m : Int)) = false := by simp
              rw [hm] at cT
              have HF := Lib.hid (And.intro hMq (And.intro hrowq (And.intro hval (And.intro hap (And.intro hl bq)))))
              clear hE hM' hrow hval hap hl hbk qD hMq hrowq bq hDr hjl hsvk hsv0 HT
              rw [htb]
              go_wp2_with (go_at_call 41; refine cT.mono ?_; rintro e wz ⟨rfl, rfl⟩)
              go_roundw
              case rel =>
                obtain ⟨f1, f2, f3, f4, f5, f6⟩ := HF.out
                exact ⟨i + 1, n', E', X', vals, by omega, by go_num, f1, by rw [hm]; exact f2, f3, f4, f6⟩
              case measure => have := HF.out.2.2.2.2.1; simp [intOf]; omega
            · have htb : E.any (fun e => decide (e.l = L)) = false := by
                rw [List.any_eq_false]
                intro e he
                simpa using hnew e he
              have hE1 : E'.length = m + 1 := by rw [hEE]; simp [hm]
              rw [hE1] at cT
              have hgA0 := (B.refl wq).alloc #[Value.slice vo L.length vc] 31
              have hrowA := own_keepBx hrowq hgA0
              have hvE : (vals ++ [Value.slice vo L.length vc]).length = m + 1 := by simp; omega
              obtain ⟨i0, hi0, hz0, hz1, hz2⟩ := info_of slInfo
              have hsP : P.top ≤ k0 := hk0
              have hE0b : ∀ g, (Value.slice so m sc).ownBlock = some g → k0 ≤ g ∧ g < wl.heap.size := fun g hg => hrow.lt g hg
              have hszk : wl.heap.size ≤ wk.heap.size := hsz
              have hszq : wk.heap.size ≤ wq.heap.size := qD.below.size
              have hEhi : ∀ e ∈ E', e.hi ≤ wq.heap.size := fun e he => (CacheM.his hMq.cache e he).2.2
              have hapE : ∀ g, (Value.slice so m sc).ownBlock = some g → ∀ e ∈ E', g < e.b ∨ e.hi ≤ g := fun g hg e he => by
                rw [hEE] at he
                rcases List.mem_append.1 he with he | he
                · exact hap g hg e he
                · obtain rfl := List.mem_singleton.1 he
                  have := hE0b g hg
                  exact .inl (by omega)
              have hval9 : ∀ (j : Nat) v e, (vals ++ [Value.slice vo L.length vc])[j]? = some v → E'[j]? = some e → IsSecs w1b v e.l := fun j v e h1 h2 => by
                rw [hEE] at h2
                by_cases hjm : j < m
                · rw [List.getElem?_append_left (by omega)] at h1 h2
                  exact hval j v e h1 h2
                · rcases Nat.lt_or_ge m j with h3 | h3
                  · rw [List.getElem?_eq_none (by simp; omega)] at h1
                    cases h1
                  · have h4 : j = m := by omega
                    rw [List.getElem?_append_right (by omega), h4, hvl', Nat.sub_self] at h1
                    rw [List.getElem?_append_right (by omega), h4, hm, Nat.sub_self] at h2
                    obtain rfl := Option.some.inj h1
                    obtain rfl := Option.some.inj h2
                    rw [hE.2.1]
                    exact hsv0
              have HF := Lib.hid (And.intro hMq (And.intro hval9 (And.intro hapE (And.intro hEhi (And.intro hE0b (And.intro hl bq))))))
              have htopq := hMq.top
              have hbA : k0 ≤ (wq.alloc (.cells #[.slice vo L.length vc] 31)).heap.size := by have := hgA0.below.size; omega
              have hl1 : m + 1 ≤ maxLen := by unfold maxLen; omega
              have hl2 : (m + 1) * 24 ≤ 140737488355328 := by omega
              clear hE hM' hrow hval hap hl hbk qD hMq bq hDr hjl hsvk hsv0 HT hval9 hapE hEhi hE0b hnew hlow cT hrowq hrowk
              rw [htb]
              go_wp2_with (at_builtin; refine wpList_append_lies _ rfl _ _ 92 rfl k0 31 i0 (.slice none 0 0) 1 24 Tryz.underlying92 hi0 hz0 hz1 hz2 rfl (by omega) _ m vals rfl hrowA ⟨wq.heap.size, 0, none⟩ 1 1 [.slice vo L.length vc] rfl rfl (news_plain rfl) (by simp [Value.oneCell']) (by omega) hl1 hl2 hbA _ rfl ?_; intro gN cN w9 hownN hgrowN hatN hltN)
              have hgA : G (fun i => (Value.slice so m sc).ownBlock = some i) wq w9 := (hgA0.g _).grown hgrowN (fun k hk => .inl hk)
              obtain ⟨f1, f2, f3, f4, f5, f6, f7⟩ := HF.out
              have hM9 := f1.keepA hgA (fun i hi => ⟨by have := f5 i hi; omega, f3 i hi⟩)
              have cT9 := dtables_any w9 hM9
              rw [hE1] at cT9
              have b9 := hgA.b f7 (fun i hi => by have := f5 i hi; omega)
              have hap9 : ∀ g, (Value.slice (some ⟨gN, 0, none⟩) (m + 1) cN).ownBlock = some g → ∀ e ∈ E', g < e.b ∨ e.hi ≤ g := fun g hg e he => by
                obtain rfl : gN = g := Option.some.inj hg
                rcases hatN with h | h
                · exact f3 _ h e he
                · have := f4 e he
                  have hz : (wq.alloc (.cells #[.slice vo L.length vc] 31)).heap.size = wq.heap.size + 1 := by simp
                  exact .inr (by omega)
              have HG := Lib.hid (And.intro hM9 (And.intro hownN (And.intro f2 (And.intro hap9 (And.intro f6 b9)))))
              have mI : ((m : Int) + 1 != (m : Int) + 1) = false := by simp
              have mW : IntKind.i64.wrap ((m : Int) + 1) = (m : Int) + 1 := by rw [IntKind.wrap_i64]; omega
              clear hM9 hownN f1 f2 f3 f4 f5 f6 f7 hap9 b9 hgA hgrowN hatN hltN HF hgA0 hrowA
              push_cast at cT9
              go_wp2_with (go_at_call 41; refine cT9.mono ?_; rintro e wz ⟨rfl, rfl⟩)
              go_roundw
              case rel =>
                obtain ⟨g1, g2, g3, g4, g5, g6⟩ := HG.out
                exact ⟨i + 1, n', E', X', _, by omega, by go_num, g1, by rw [hE1]; exact g2, g3, g4, g6⟩
              case measure => have := HG.out.2.2.2.2.1; simp [intOf]; omega
      · have hkB : decide ((kk : Int) < (nW : Int)) = false := decide_eq_false (by omega)
        have hkN : decide (kk < nW) = false := decide_eq_false hk
        obtain ⟨kt, hkt⟩ : ∃ kt, kk - nW = kt := ⟨_, rfl⟩
        have m6 : IntKind.i64.wrap ((kk : Int) - (nW : Int)) = (kt : Int) := by rw [IntKind.wrap_i64]; omega
        have hkI : (kt : Int) < (nT : Int) := by omega
        have hkp : (0 : Int) ≤ (kt : Int) := by omega
        have hr : D.ts[kt]? = some D.ts[kt] := List.getElem?_eq_getElem (by omega)
        obtain ⟨xa, xc, hxa, _, _, hrec⟩ := hDb.ts.at_ (i := kt) (by omega)
        rw [hnTe] at hxa
        simp only [Value.slice.injEq, true_and] at hxa
        obtain ⟨rfl, rfl⟩ := hxa
        have hnz := (rightD_small hR).tn _ (List.mem_of_getElem? hr)
        have hnm : namedL (D.ts.map (·.n)) (D.ts[kt]).n = true := List.any_eq_true.2 ⟨_, List.mem_map.2 ⟨_, List.mem_of_getElem? hr, rfl⟩, by simp⟩
        generalize D.ts[kt] = r at *
        obtain ⟨RN, RX, RY, RZ, L⟩ := r
        obtain ⟨g0, _, _, _, v, g4, hsv0⟩ := hrec
        simp only at g0 g4 hsv0 hnz hnm
        obtain ⟨vo, vc, rfl⟩ := hsv0.formL
        have cW := dtip_yes w wl (b1.trans bwl) hp hbm hM RN hnz (by rw [hPd]; exact hnm)
        replace g0 := bwl.keep g0
        replace g4 := bwl.keep g4
        have HRr := Lib.hid hr
        clear hr hk hkS hkt hnm oXl
        go_wp2_with fail
        refine cW.mono ?_
        rintro e wk ⟨i9, rc, p9, e0, n', E', X', o9, c9, hi9, hrn, rfl, _, hpp, hE, hM', hg⟩
        rw [hPd] at hi9
        obtain rfl : rc = ⟨RN, RX, RY, RZ, L⟩ := name_one pT hi9 HRr.out hrn
        simp only at hE
        have hsz := hg.size
        clear cW hi9 hrn hpp g0 g4 x0 x1 HRr
        obtain ⟨m, hm⟩ : ∃ m, E.length = m := ⟨_, rfl⟩
        have hmle : m ≤ 100 := by have := hM.n12; have := hM.few; omega
        have hrowk := own_on hrow (fun i h1 h2 => hg.block i h2 (hnS i h1))
        have hbk := hg.b bwl (fun i hi => hSlo i hi)
        rw [hm] at hrowk
        have hvl := hrowk.1
        have hvl' : vals.length = m := by omega
        have hsvk := hsv0.keepB hbk
        obtain ⟨so, sc, hsvf⟩ := ownsRow_form hrowk
        have HT := Lib.hid (And.intro hM' (And.intro hE (And.intro hrow (And.intro hval (And.intro hap (And.intro hl hbk))))))
        clear hM' hE hrow hval hap hl hg hM bwl
        subst hsvf
        go_wp2_with fail
        go_loopw [18, 19] (fun tv jv wr => ∃ j : Nat, j ≤ m ∧ jv = .int .i64 j ∧ tv = .bool ((E.take j).any fun e => decide (e.l = L)) ∧ Dr wk wr) (fun _ jv _ => m + 1 - (intOf jv).toNat)
        case atStart => exact ⟨0, Nat.zero_le _, rfl, rfl, Dr.refl _⟩
        case round =>
          obtain ⟨j, hj, rfl, rfl, hDr⟩ := hrel
          obtain ⟨wq, rfl⟩ : ∃ wq : World, wq = wr := ⟨_, rfl⟩
          by_cases hjl : j < m
          · have hlB2 : decide ((j : Int) < (m : Int)) = true := decide_eq_true (by omega)
            have hlN2 : decide (j < m) = true := decide_eq_true hjl
            have hj0 : (0 : Int) ≤ (j : Int) := by omega
            have hjI : (j : Int) < (m : Int) := by omega
            have wk2 : IntKind.i64.wrap ((j : Int) + 1) = (j : Int) + 1 := by rw [IntKind.wrap_i64]; omega
            have hej : E[j]? = some E[j] := List.getElem?_eq_getElem (by omega)
            have hvj : vals[j]? = some (vals[j]'(by omega)) := List.getElem?_eq_getElem _
            have hss := HT.out.2.2.2.1 j _ _ hvj hej
            have htake : (E.take (j + 1)).any (fun e => decide (e.l = L)) = ((E.take j).any (fun e => decide (e.l = L)) || decide (E[j].l = L)) := by rw [List.take_add_one, hej, List.any_append]; simp only [Option.toList, List.any_cons, List.any_nil, Bool.or_false]
            obtain ⟨uo, uc, huf⟩ := (hss).formL
            obtain ⟨g, cp, hsl, hgk, hglt⟩ := hrowk.form (by omega)
            simp only [Value.slice.injEq, true_and] at hsl
            obtain ⟨rfl, rfl⟩ := hsl
            have yc0 := (own_keepBx hrowk hDr.q.b).cellAt (j * 1) (by omega)
            rw [Nat.mul_one] at yc0
            have yc := yc0.trans hvj
            clear yc0
            have cS := sections_dec _ _ _ L wq (hss.keepB (HT.out.2.2.2.2.2.2.trans hDr.q.b)) (hsvk.keepB hDr.q.b)
            generalize vals[j] = vj at *
            subst huf
            generalize (E.take j).any (fun e => decide (e.l = L)) = tb at *
            generalize E[j].l = lj at *
            generalize decide (lj = L) = db at *
            have HJ := Lib.hid (And.intro hjl (And.intro hDr htake))
            clear hjl hDr htake hej hvj hss
            cases tb
            · go_wp2_with fail
              refine cS.mono ?_
              rintro e wz ⟨rfl, qz⟩
              go_wp2
              go_roundw
              case rel => exact ⟨j + 1, by have := HJ.out.1; omega, by go_num, by rw [HJ.out.2.2]; rfl, HJ.out.2.1.trans qz⟩
              case measure => have := HJ.out.1; simp [intOf]; omega
            · go_wp2
              go_roundw
              case rel => exact ⟨j + 1, by have := HJ.out.1; omega, by go_num, by rw [HJ.out.2.2]; rfl, HJ.out.2.1⟩
              case measure => have := HJ.out.1; simp [intOf]; omega
          · have hlB2 : decide ((j : Int) < (m : Int)) = false := decide_eq_false (by omega)
            have hlN2 : decide (j < m) = false := decide_eq_false hjl
            rw [List.take_of_length_le (by omega)]
            obtain ⟨hM', hE, hrow, hval, hap, hl, hbk⟩ := HT.out
            have qD := hDr.q.b
            have hMq := hM'.keepB qD
            have cT := dtables_any wq hMq
            have hrowq := own_keepBx hrowk qD
            have bq := hbk.trans qD
            rcases hE.2.2 with hEE | ⟨hnew, hlow, hEE⟩
            · subst hEE
              have htb : E'.any (fun e => decide (e.l = L)) = true := List.any_eq_true.2 ⟨e0, hE.1, decide_eq_true hE.2.1⟩
              have mB : ((m : Int) != (m : Int)) = false := by simp
              rw [hm] at cT
              have HF := Lib.hid (And.intro hMq (And.intro hrowq (And.intro hval (And.intro hap (And.intro hl bq)))))
              clear hE hM' hrow hval hap hl hbk qD hMq hrowq bq hDr hjl hsvk hsv0 HT
              rw [htb]
              go_wp2_with (go_at_call 41; refine cT.mono ?_; rintro e wz ⟨rfl, rfl⟩)
              go_roundw
              case rel =>
                obtain ⟨f1, f2, f3, f4, f5, f6⟩ := HF.out
                exact ⟨i + 1, n', E', X', vals, by omega, by go_num, f1, by rw [hm]; exact f2, f3, f4, f6⟩
              case measure => have := HF.out.2.2.2.2.1; simp [intOf]; omega
            · have htb : E.any (fun e => decide (e.l = L)) = false := by
                rw [List.any_eq_false]
                intro e he
                simpa using hnew e he
              have hE1 : E'.length = m + 1 := by rw [hEE]; simp [hm]
              rw [hE1] at cT
              have hgA0 := (B.refl wq).alloc #[Value.slice vo L.length vc] 31
              have hrowA := own_keepBx hrowq hgA0
              have hvE : (vals ++ [Value.slice vo L.length vc]).length = m + 1 := by simp; omega
              obtain ⟨i0, hi0, hz0, hz1, hz2⟩ := info_of slInfo
              have hsP : P.top ≤ k0 := hk0
              have hE0b : ∀ g, (Value.slice so m sc).ownBlock = some g → k0 ≤ g ∧ g < wl.heap.size := fun g hg => hrow.lt g hg
              have hszk : wl.heap.size ≤ wk.heap.size := hsz
              have hszq : wk.heap.size ≤ wq.heap.size := qD.below.size
              have hEhi : ∀ e ∈ E', e.hi ≤ wq.heap.size := fun e he => (CacheM.his hMq.cache e he).2.2
              have hapE : ∀ g, (Value.slice so m sc).ownBlock = some g → ∀ e ∈ E', g < e.b ∨ e.hi ≤ g := fun g hg e he => by
                rw [hEE] at he
                rcases List.mem_append.1 he with he | he
                · exact hap g hg e he
                · obtain rfl := List.mem_singleton.1 he
                  have := hE0b g hg
                  exact .inl (by omega)
              have hval9 : ∀ (j : Nat) v e, (vals ++ [Value.slice vo L.length vc])[j]? = some v → E'[j]? = some e → IsSecs w1b v e.l := fun j v e h1 h2 => by
                rw [hEE] at h2
                by_cases hjm : j < m
                · rw [List.getElem?_append_left (by omega)] at h1 h2
                  exact hval j v e h1 h2
                · rcases Nat.lt_or_ge m j with h3 | h3
                  · rw [List.getElem?_eq_none (by simp; omega)] at h1
                    cases h1
                  · have h4 : j = m := by omega
                    rw [List.getElem?_append_right (by omega), h4, hvl', Nat.sub_self] at h1
                    rw [List.getElem?_append_right (by omega), h4, hm, Nat.sub_self] at h2
                    obtain rfl := Option.some.inj h1
                    obtain rfl := Option.some.inj h2
                    rw [hE.2.1]
                    exact hsv0
              have HF := Lib.hid (And.intro hMq (And.intro hval9 (And.intro hapE (And.intro hEhi (And.intro hE0b (And.intro hl bq))))))
              have htopq := hMq.top
              have hbA : k0 ≤ (wq.alloc (.cells #[.slice vo L.length vc] 31)).heap.size := by have := hgA0.below.size; omega
              have hl1 : m + 1 ≤ maxLen := by unfold maxLen; omega
              have hl2 : (m + 1) * 24 ≤ 140737488355328 := by omega
              clear hE hM' hrow hval hap hl hbk qD hMq bq hDr hjl hsvk hsv0 HT hval9 hapE hEhi hE0b hnew hlow cT hrowq hrowk
              rw [htb]
              go_wp2_with (at_builtin; refine wpList_append_lies _ rfl _ _ 92 rfl k0 31 i0 (.slice none 0 0) 1 24 Tryz.underlying92 hi0 hz0 hz1 hz2 rfl (by omega) _ m vals rfl hrowA ⟨wq.heap.size, 0, none⟩ 1 1 [.slice vo L.length vc] rfl rfl (news_plain rfl) (by simp [Value.oneCell']) (by omega) hl1 hl2 hbA _ rfl ?_; intro gN cN w9 hownN hgrowN hatN hltN)
              have hgA : G (fun i => (Value.slice so m sc).ownBlock = some i) wq w9 := (hgA0.g _).grown hgrowN (fun k hk => .inl hk)
              obtain ⟨f1, f2, f3, f4, f5, f6, f7⟩ := HF.out
              have hM9 := f1.keepA hgA (fun i hi => ⟨by have := f5 i hi; omega, f3 i hi⟩)
              have cT9 := dtables_any w9 hM9
              rw [hE1] at cT9
              have b9 := hgA.b f7 (fun i hi => by have := f5 i hi; omega)
              have hap9 : ∀ g, (Value.slice (some ⟨gN, 0, none⟩) (m + 1) cN).ownBlock = some g → ∀ e ∈ E', g < e.b ∨ e.hi ≤ g := fun g hg e he => by
                obtain rfl : gN = g := Option.some.inj hg
                rcases hatN with h | h
                · exact f3 _ h e he
                · have := f4 e he
                  have hz : (wq.alloc (.cells #[.slice vo L.length vc] 31)).heap.size = wq.heap.size + 1 := by simp
                  exact .inr (by omega)
              have HG := Lib.hid (And.intro hM9 (And.intro hownN (And.intro f2 (And.intro hap9 (And.intro f6 b9)))))
              have mI : ((m : Int) + 1 != (m : Int) + 1) = false := by simp
              have mW : IntKind.i64.wrap ((m : Int) + 1) = (m : Int) + 1 := by rw [IntKind.wrap_i64]; omega
              clear hM9 hownN f1 f2 f3 f4 f5 f6 f7 hap9 b9 hgA hgrowN hatN hltN HF hgA0 hrowA
              push_cast at cT9
              go_wp2_with (go_at_call 41; refine cT9.mono ?_; rintro e wz ⟨rfl, rfl⟩)
              go_roundw
              case rel =>
                obtain ⟨g1, g2, g3, g4, g5, g6⟩ := HG.out
                exact ⟨i + 1, n', E', X', _, by omega, by go_num, g1, by rw [hE1]; exact g2, g3, g4, g6⟩
              case measure => have := HG.out.2.2.2.2.1; simp [intOf]; omega
    · have hlB : decide ((i : Int) < (mL : Int)) = false := decide_eq_false (by omega)
      have hlN : decide (i < mL) = false := decide_eq_false hl
      have HZ := Lib.hid (b1.trans bwl)
      clear hM hrow hval hap bwl
      go_wp2
      go_ret
      exact ⟨rfl, HZ.out⟩
theorem once_ok (a b c d : Int) (lv : Value) (bs : List UInt8) (ha : (Lit.int .u8 a).wf = true) (hb : (Lit.int .u8 b).wf = true) (hc : (Lit.int .u8 c).wf = true) (hd : (Lit.int .u8 d).wf = true) (w : World) (hU : IsU8s w lv bs) (htab : Lib.TabIs Tryz.prog w "internal/strconv.uint64pow10" .u64 Lib.pow10Tab) :
    Calls Tryz.prog 6 #[.int .u8 a, .int .u8 b, .int .u8 c, .int .u8 d, lv] w fun e w' => e = .returned (.bool true) ∧ B w w' := once_law a b c d lv bs ha hb hc hd w hU (Lib.tabBelow_of_tabIs htab)
end Go.Proofs.YtalnfojaccfcjaaGreatDoor
