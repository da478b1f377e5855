/-
  Layer 11: a deck that may not be has no board; what deck a board was made of; The code's protocols that may be; Layer 13: Ops: all that is to be done; Layer 11: what right decks bear; the statements' decks as boards; Contracts of the document's own products (its sums: XRadd); Plain mathematics of a division bit by bit. No program is named here.
-/
import Derived.Test.YtjdkhobkdlldnaaGreatDoorChecked
import Derived.Lib.Mul64
import Derived.Outline
import Derived.Laws.Strings2
import Derived.Laws.Slices
import Derived.KernelRfl
import Derived.Test.YtjdkhobkdlldnaaGreatDoorY1
import Derived.Test.YtjdkhobkdlldnaaGreatDoorY2
import Derived.Test.YtjdkhobkdlldnaaGreatDoorY3
import Derived.Test.YtjdkhobkdlldnaaGreatDoorY4
import Derived.Test.YtjdkhobkdlldnaaGreatDoorY5
import Derived.Test.YtjdkhobkdlldnaaGreatDoorY6
import Derived.Test.YtjdkhobkdlldnaaGreatDoorY7
import Derived.Test.YtjdkhobkdlldnaaGreatDoorY8
import Derived.Test.YtjdkhobkdlldnaaGreatDoorY9
import Derived.Test.YtjdkhobkdlldnaaGreatDoorY10
import Derived.Test.YtjdkhobkdlldnaaGreatDoorY11
import Derived.Test.YtjdkhobkdlldnaaGreatDoorY12
import Derived.Test.YtjdkhobkdlldnaaGreatDoorY13
import Derived.Test.YtjdkhobkdlldnaaGreatDoorY14
import Derived.Test.YtjdkhobkdlldnaaGreatDoorY15
import Derived.Test.YtjdkhobkdlldnaaGreatDoorY16
import Derived.Test.YtjdkhobkdlldnaaGreatDoorY17
import Derived.Test.YtjdkhobkdlldnaaGreatDoorY18
import Derived.Test.YtjdkhobkdlldnaaGreatDoorY19
namespace Go.Proofs.YtjdkhobkdlldnaaGreatDoor
open Go.RowKit Go.Maps Go.WideMaps
set_option linter.unusedVariables false
section
variable {P : Bp} {n : Nat} {E : List Ent} {X : List Th}
theorem right_len {d : Dk} (h : rightD d = true) : (∀ r ∈ d.ws, r.l.length ≤ 1000000) ∧ ∀ r ∈ d.ts, r.l.length ≤ 1000000 := by
  obtain ⟨_, _, pW, pT⟩ := right_parts9 h
  refine ⟨fun r hr' => ?_, fun r hr' => ?_⟩
  · obtain ⟨i, hi, e⟩ := List.getElem_of_mem hr'
    have := right_all (wareOk_right (apart_at pW (show d.ws[i]? = some r by rw [List.getElem?_eq_getElem hi, e])).1)
    omega
  · obtain ⟨i, hi, e⟩ := List.getElem_of_mem hr'
    have := right_all (tipOk_right (apart_at pT (show d.ts[i]? = some r by rw [List.getElem?_eq_getElem hi, e])).1)
    omega
set_option maxRecDepth 100000 in
set_option maxHeartbeats 1600000 in
theorem ddeck_any (w : World) (h : BoardM P w n E X) (hf9 : P.d.fs.length ≤ 1000000) : Calls Tryz.prog 61 #[.pointer (some ⟨P.b, 0, none⟩)] w fun e w' => ∃ o1 c1 o2 c2 o3 c3 ss tt, e = .returned (.agg #[.slice o1 P.d.ws.length c1, .slice o2 P.d.ts.length c2, .slice o3 P.d.fs.length c3]) ∧
    OwnD w' w.heap.size (.slice o1 P.d.ws.length c1) (.slice o2 P.d.ts.length c2) (.slice o3 P.d.fs.length c3) P.d ss tt ∧ B w w' := by
  obtain ⟨l8, l4⟩ := right_len h.right
  obtain ⟨p8, p4, _, _⟩ := right_parts9 h.right
  have qa : B w (w.alloc (.cells #[.slice none 0 0, .slice none 0 0, .slice none 0 0] 26)) := (B.refl w).alloc _ _
  have oR := obj_new w (.cells #[.slice none 0 0, .slice none 0 0, .slice none 0 0] 26)
  have hM := h.keepB qa
  have oB := hM.obj
  have cC := copied_any P.wv P.tv P.fv P.d _ hM.dk.now l8 l4 (by omega) (by omega) hf9
  obtain ⟨ao, ac, bo, bc, co, cc, e1, e2, e3⟩ := hM.dk.now.forms
  rw [e1, e2, e3] at oB cC
  generalize P.d = d at *
  have k0 := obj_cell oB 0
  have k1 := obj_cell oB 1
  have k2 := obj_cell oB 2
  have hsz := qa.below.size
  clear oB hM h e1 e2 e3 l8 l4
  go_enter Tryz.func61, Tryz.ntmps61
  go_wp2_with fail
  generalize w.alloc (.cells #[.slice none 0 0, .slice none 0 0, .slice none 0 0] 26) = w0 at *
  refine cC.mono ?_
  rintro e w1 ⟨o1, c1, o2, c2, o3, c3, ss, tt, rfl, HO, q1⟩
  have oR1 := q1.obj oR
  have gR := g_three w1 w.heap.size (.slice o1 d.ws.length c1) (.slice o2 d.ts.length c2) (.slice o3 d.fs.length c3)
  have oE := obj_three oR1 (.slice o1 d.ws.length c1) (.slice o2 d.ts.length c2) (.slice o3 d.fs.length c3)
  have hR : w.heap.size < w0.heap.size := obj_lt oR
  have HO2 := HO.on (w' := ((w1.setCell ⟨w.heap.size, 0, none⟩ (.slice o1 d.ws.length c1)).setCell ⟨w.heap.size, 1, none⟩ (.slice o2 d.ts.length c2)).setCell ⟨w.heap.size, 2, none⟩ (.slice o3 d.fs.length c3)) (fun i h1 h2 => gR.block i h2 (fun e => by omega))
  have hq := b_three (b := w.heap.size) (qa.trans q1) (Nat.le_refl _) (.slice o1 d.ws.length c1) (.slice o2 d.ts.length c2) (.slice o3 d.fs.length c3)
  have y0 := obj_cell oR1 0
  have y1 := obj_cell oR1 1
  have y2 := obj_cell oR1 2
  have z0 := obj_free oR1 0
  have z1 := obj_free oR1 1
  have z2 := obj_free oR1 2
  have HZ := Lib.hid (And.intro oE (And.intro hq HO2))
  clear oE hq HO2 HO gR q1 qa oR oR1 cC k0 k1 k2
  go_wp2
  obtain ⟨oE, hqF, hOwn⟩ := HZ.out
  have c0' := obj_cell oE 0
  have c1' := obj_cell oE 1
  have c2' := obj_cell oE 2
  refine bodyPost_ret (v := .agg #[.slice o1 d.ws.length c1, .slice o2 d.ts.length c2, .slice o3 d.fs.length c3]) (by simp [results, Tryz.results61, go_sem, c0', c1', c2']) rfl ⟨o1, c1, o2, c2, o3, c3, ss, tt, rfl, ?_, hqF⟩
  exact ⟨own_low hOwn.ws hsz, own_low hOwn.ts hsz, own_low hOwn.fs hsz, hOwn.sl, hOwn.tl, fun i r v h1 h2 => own_low (hOwn.sh i r v h1 h2) hsz, fun i r v h1 h2 => own_low (hOwn.th i r v h1 h2) hsz, hOwn.wi, hOwn.ti⟩
end
end Go.Proofs.YtjdkhobkdlldnaaGreatDoor

namespace Go.Proofs.YtjdkhobkdlldnaaGreatDoor
open Go.RowKit
set_option linter.unusedVariables false
def SpsI (S : List Sp) : Prop := ∀ s ∈ S, WpsI s.w
set_option maxRecDepth 100000 in
set_option maxHeartbeats 2000000 in
theorem pright_any (v : Value) (L : List Sp) (w : World) (h : IsSps w v L) (hSI : SpsI L) : Calls Tryz.prog 60 #[v] w fun e w' => e = .returned (.bool (stepsOk L)) ∧ B w w' := by
  obtain ⟨ao, ac, rfl⟩ := h.form
  have hlen := h.len
  by_cases h200 : 200 < L.length
  · have hB : decide ((200 : Int) < (L.length : Int)) = true := decide_eq_true (by omega)
    have hN : decide (200 < L.length) = true := decide_eq_true h200
    have HR : Hid (stepsOk L = false) := Lib.hid (by unfold stepsOk; rw [decide_eq_false (by omega)]; rfl)
    clear h h200
    go_enter Tryz.func60, Tryz.ntmps60
    go_wp2
    go_ret
    exact ⟨by rw [HR.out]; rfl, B.refl _⟩
  · have hB : decide ((200 : Int) < (L.length : Int)) = false := decide_eq_false (by omega)
    have hN : decide (200 < L.length) = false := decide_eq_false h200
    go_enter Tryz.func60, Tryz.ntmps60
    go_wp2_with fail
    go_loopw [10] (fun iv wr => ∃ i : Nat, i ≤ L.length ∧ iv = .int .i64 i ∧ (L.take i).all stepOk = true ∧ B w wr) (fun iv _ => L.length + 1 - (intOf iv).toNat)
    case atStart => exact ⟨0, Nat.zero_le _, rfl, rfl, B.refl _⟩
    case round =>
      obtain ⟨i, hi, rfl, hok, hQi⟩ := hrel
      obtain ⟨wo, rfl⟩ : ∃ wo : World, wo = wr := ⟨_, rfl⟩
      by_cases hl : i < L.length
      · have hlB : decide ((i : Int) < (L.length : Int)) = true := decide_eq_true (by omega)
        have hlN : decide (i < L.length) = true := decide_eq_true hl
        have hlI : (i : Int) < (L.length : Int) := by omega
        have hi0 : (0 : Int) ≤ (i : Int) := by omega
        have wk1 : IntKind.i64.wrap ((i : Int) + 1) = (i : Int) + 1 := by rw [IntKind.wrap_i64]; omega
        obtain ⟨a, cap, e1, _, _, hr⟩ := (h.keepB hQi).at_ hl
        obtain ⟨rfl, _, rfl⟩ : ao = some a ∧ True ∧ ac = cap := by simpa using e1
        obtain ⟨F, hF⟩ : ∃ F, L[i]? = some F := ⟨_, List.getElem?_eq_getElem hl⟩
        have hFe : L[i] = F := by rw [List.getElem?_eq_getElem hl] at hF; simpa using hF
        rw [hFe] at hr
        have hup : (L.take (i + 1)).all stepOk = stepOk F := by
          rw [List.take_add_one, hF, List.all_append, hok]
          simp
        have hbad : stepOk F = false → stepsOk L = false := fun he => by
          have e : L.all stepOk = false := List.all_eq_false.2 ⟨_, List.mem_of_getElem? hF, by simp [he]⟩
          unfold stepsOk
          rw [e, Bool.and_false]
        obtain ⟨K, N, WS, V, M⟩ := F
        obtain ⟨g0, g1, ⟨sv, g2, g5⟩, g3, g4⟩ := hr
        simp only at g0 g1 g2 g3 g4 g5
        have hWI := hSI _ (List.mem_of_getElem? hF)
        have qb : B wo (wo.alloc (.cells #[.int .i64 K, .string N, sv, .int .i64 V, .int .i64 M] 67)) := (B.refl _).alloc _ _
        have cS := psayable_any K N WS V M sv _ (g5.keepB qb) hWI
        obtain ⟨so, sc, rfl⟩ := g5.form
        generalize stepOk ⟨K, N, WS, V, M⟩ = OK at *
        have HL := Lib.hid hl
        have HQ := Lib.hid (hQi.trans qb)
        clear qb hWI hF hFe e1 hl hQi h hok g5
        generalize WS.length = wl at *
        cases OK
        · have HR := Lib.hid (hbad rfl)
          clear hup hbad
          go_wp2_with fail
          refine cS.mono ?_
          rintro _ w5 ⟨rfl, q5⟩
          have HQ5 := Lib.hid (HQ.out.trans q5)
          clear cS g0 g1 g2 g3 g4 q5
          go_wp2
          go_ret
          exact ⟨by rw [HR.out]; rfl, HQ5.out⟩
        · have HU := Lib.hid hup
          clear hup hbad
          go_wp2_with fail
          refine cS.mono ?_
          rintro _ w5 ⟨rfl, q5⟩
          have HQ5 := Lib.hid (HQ.out.trans q5)
          clear cS g0 g1 g2 g3 g4 q5
          go_wp2
          go_roundw
          case rel => exact ⟨i + 1, by have := HL.out; omega, by go_num, HU.out, HQ5.out⟩
          case measure => have := HL.out; simp [intOf]; omega
      · have hlB : decide ((i : Int) < (L.length : Int)) = false := decide_eq_false (by omega)
        have hlN : decide (i < L.length) = false := decide_eq_false hl
        rw [List.take_of_length_le (by omega)] at hok
        have HR : Hid (stepsOk L = true) := Lib.hid (by unfold stepsOk; rw [hok, decide_eq_true (by omega : L.length ≤ 200)]; rfl)
        have HQ := Lib.hid hQi
        clear hok hl hi h hQi
        go_wp2
        go_ret
        exact ⟨by rw [HR.out]; rfl, HQ.out⟩
end Go.Proofs.YtjdkhobkdlldnaaGreatDoor

namespace Go.Proofs.YtjdkhobkdlldnaaGreatDoor
open Go.RowKit
set_option linter.unusedVariables false
theorem stepX_len {d : Dk} {i : Nat} {s : Sp} {st st' : XSt} (h : stepX d i s st = .ok st') (h1 : st.ops.length ≤ 1000) (h2 : st.of.length = st.ops.length) : st'.ops.length ≤ 1000 ∧ st'.of.length = st'.ops.length := by
  unfold stepX at h
  split at h
  · split at h
    · cases h; exact ⟨h1, h2⟩
    · cases h
  · split at h
    · cases h; exact ⟨h1, h2⟩
    · split at h
      · cases h
      · split at h
        · cases h
        · split at h
          · cases h
          · rename_i hle
            cases h
            simp only [List.length_append, tagX_len, List.length_replicate]
            omega
theorem OwnD.tnX {w w' : World} {base b : Nat} {wv tv fv : Value} {d : Dk} {ss tt : List Value} (h : OwnD w base wv tv fv d ss tt) (t : Tn kX b w w') : OwnD w' base wv tv fv d ss tt :=
  ⟨own_tnU h.ws t (by decide), own_tnU h.ts t (by decide), own_tnU h.fs t (by decide), h.sl, h.tl, fun i r v h1 h2 => own_tnU (h.sh i r v h1 h2) t (by decide), fun i r v h1 h2 => own_tnU (h.th i r v h1 h2) t (by decide), h.wi, h.ti⟩
/-- What all steps come to. -/
def opsX (d : Dk) (L : List Sp) : Except (Nat × Nat) XSt := if stepsOk L then runX d 0 L xst0 else .error (0, 20)
def OpsRes (d : Dk) (L : List Sp) (w : World) (e : Ending) (w' : World) : Prop :=
  (∃ st o1 c1 o2 c2, opsX d L = .ok st ∧ e = .returned (.tuple #[.slice o1 st.ops.length c1, .slice o2 st.of.length c2, .int .i64 0, .int .i64 0]) ∧ w'.ownsRow w.heap.size 124 9 (.slice o1 st.ops.length c1) st.ops.length (flatOp st.ops) ∧
    w'.ownsRow w.heap.size 3 1 (.slice o2 st.of.length c2) st.of.length (flatI st.of) ∧ B w w') ∨
  (∃ i n : Nat, opsX d L = .error (i, n) ∧ e = .returned (.tuple #[.slice none 0 0, .slice none 0 0, .int .i64 (i : Int), .int .i64 (n : Int)]) ∧ B w w')
theorem opsRes_ok {d : Dk} {L : List Sp} {w w' : World} {st : XSt} {A oc sc : Nat} {oo so : Option Addr} (h : opsX d L = .ok st) (e1 : st.ops.length = A) (e2 : st.of.length = A) (r1 : w'.ownsRow w.heap.size 124 9 (.slice oo A oc) st.ops.length (flatOp st.ops))
    (r2 : w'.ownsRow w.heap.size 3 1 (.slice so A sc) st.of.length (flatI st.of)) (q : B w w') : OpsRes d L w (.returned (.tuple #[.slice oo A oc, .slice so A sc, .int .i64 0, .int .i64 0])) w' := by
  subst e1
  refine .inl ⟨st, oo, oc, so, sc, h, by rw [e2], r1, ?_, q⟩
  rw [e2] at r2 ⊢
  exact r2
section
variable {P : Bp} {n9 : Nat} {E : List Ent} {X : List Th}
set_option maxRecDepth 100000 in
set_option maxHeartbeats 4000000 in
theorem xops_any (d : Dk) (hd : P.d = d) (w : World) (h : BoardM P w n9 E X) (hf9 : d.fs.length ≤ 1000000) (lv : Value) (L : List Sp) (hL : IsSps w lv L) (hI : SpsI L) :
    Calls Tryz.prog 19 #[.pointer (some ⟨P.b, 0, none⟩), lv] w fun e w' => OpsRes d L w e w' := by
  have cR := pright_any lv L w hL hI
  obtain ⟨lo, lc, rfl⟩ := hL.form
  obtain ⟨ln, hln⟩ : ∃ ln, L.length = ln := ⟨_, rfl⟩
  rw [hln] at hL cR ⊢
  have hbw : ∀ x ∈ d.ws, wareB x := by
    obtain ⟨_, _, pW, _⟩ := right_parts9 (hd ▸ h.right)
    exact wares_in pW
  have h8 : d.ws.length ≤ 100 := by have := right_few (hd ▸ h.right); omega
  have cD := fun w' (q : B w w') => ddeck_any w' (h.keepB q) (by rw [hd]; exact hf9)
  simp only [hd] at cD
  cases hok : stepsOk L with
  | false =>
    rw [hok] at cR
    have HE := Lib.hid (show opsX d L = .error (0, 20) by unfold opsX; rw [hok]; rfl)
    clear h hL hI cD hbw h8 hln hok hd
    go_enter Tryz.func19, Tryz.ntmps19
    go_wp2_with fail
    refine cR.mono ?_
    rintro e w1 ⟨rfl, q1⟩
    have HQ := Lib.hid q1
    clear cR q1
    go_wp2
    try simp only [Exit.inBlock, Exit.then]
    refine bodyPost_ret (results_tmp4 rfl _ _ _) rfl ?_
    exact .inr ⟨0, 20, HE.out, rfl, HQ.out⟩
  | true =>
    rw [hok] at cR
    have HE := Lib.hid (show opsX d L = runX d 0 L xst0 by unfold opsX; rw [hok]; rfl)
    have hall : ∀ s ∈ L, stepOk s = true := by
      unfold stepsOk at hok
      exact List.all_eq_true.1 (Bool.and_eq_true_iff.1 hok).2
    have hL200 : ln ≤ 200 := by
      unfold stepsOk at hok
      have := of_decide_eq_true (Bool.and_eq_true_iff.1 hok).1
      omega
    have HH := Lib.hid (And.intro hL (And.intro hI (And.intro hall (And.intro hbw (And.intro h8 hln)))))
    have hbz := Lib.hid (Nat.le_refl w.heap.size)
    clear h hL hI hbw h8 hln hok hall hd
    go_enter Tryz.func19, Tryz.ntmps19
    go_wp2_with fail
    refine cR.mono ?_
    rintro e w1 ⟨rfl, q1⟩
    have cD1 := cD _ q1
    clear cR cD
    go_wp2_with fail
    refine cD1.mono ?_
    rintro e w2 ⟨o1, c1, o2, c2, o3, c3, ss, tt, rfl, hO, q2⟩
    have hO' : OwnD w2 w.heap.size (.slice o1 d.ws.length c1) (.slice o2 d.ts.length c2) (.slice o3 d.fs.length c3) d ss tt := by
      have hs := q1.below.size
      exact ⟨own_low hO.ws hs, own_low hO.ts hs, own_low hO.fs hs, hO.sl, hO.tl, fun i r v h1 h2 => own_low (hO.sh i r v h1 h2) hs, fun i r v h1 h2 => own_low (hO.th i r v h1 h2) hs, hO.wi, hO.ti⟩
    have q12 := q1.trans q2
    have HX := Lib.hid (And.intro hO' q12)
    obtain ⟨an, han⟩ : ∃ an, d.ws.length = an := ⟨_, rfl⟩
    obtain ⟨bn, hbn⟩ : ∃ bn, d.ts.length = bn := ⟨_, rfl⟩
    obtain ⟨cn, hcn⟩ : ∃ cn, d.fs.length = cn := ⟨_, rfl⟩
    rw [han, hbn, hcn] at HX ⊢
    clear hO hO' q1 q2 q12 cD1 han hbn hcn
    have oW := obj_new w2 (.cells #[.slice o1 an c1, .slice o2 bn c2, .slice o3 cn c3, .string ⟨#[]⟩, .bool false, .slice none 0 0, .slice none 0 0] 137)
    have qW : B w2 (w2.alloc (.cells #[.slice o1 an c1, .slice o2 bn c2, .slice o3 cn c3, .string ⟨#[]⟩, .bool false, .slice none 0 0, .slice none 0 0] 137)) := (B.refl _).alloc _ _
    have hW0 : WorkM (w2.alloc (.cells #[.slice o1 an c1, .slice o2 bn c2, .slice o3 cn c3, .string ⟨#[]⟩, .bool false, .slice none 0 0, .slice none 0 0] 137)) w.heap.size w2.heap.size (.slice o1 an c1) (.slice o2 bn c2) (.slice o3 cn c3) xst0 (.slice none 0 0) (.slice none 0 0) := ⟨oW, World.ownsRow_nil _ _ _ _, World.ownsRow_nil _ _ _ _, HX.out.2.below.size⟩
    have H0 := Lib.hid (And.intro hW0 (And.intro (HX.out.1.tnX (qW.tn kX 0)) (HX.out.2.trans qW)))
    clear oW qW hW0 HX
    go_wp2_with fail
    generalize w2.alloc (.cells #[.slice o1 an c1, .slice o2 bn c2, .slice o3 cn c3, .string ⟨#[]⟩, .bool false, .slice none 0 0, .slice none 0 0] 137) = w3 at *
    generalize w2.heap.size = W at *
    go_loopw [24] (fun iv wr => ∃ (i : Nat) (st : XSt) (ov sv : Value), i ≤ ln ∧ iv = .int .i64 i ∧ WorkM wr w.heap.size W (.slice o1 an c1) (.slice o2 bn c2) (.slice o3 cn c3) st ov sv ∧ OwnD wr w.heap.size (.slice o1 an c1) (.slice o2 bn c2) (.slice o3 cn c3) d ss tt ∧ runX d 0 L xst0 = runX d i (L.drop i) st ∧ st.ops.length ≤ 1000 ∧ st.of.length = st.ops.length ∧ B w wr) (fun iv _ => ln + 1 - (intOf iv).toNat)
    case atStart => exact ⟨0, xst0, _, _, Nat.zero_le _, rfl, H0.out.1, H0.out.2.1, rfl, Nat.zero_le _, rfl, H0.out.2.2⟩
    case round =>
      obtain ⟨i, st, ov, sv, hi, rfl, hW, hO, hrun, hn1, hn2, q⟩ := hrel
      obtain ⟨wo, rfl⟩ : ∃ wo : World, wo = wr := ⟨_, rfl⟩
      by_cases hl : i < ln
      · have hlB : decide ((i : Int) < (ln : Int)) = true := decide_eq_true (by omega)
        have hlN : decide (i < ln) = true := decide_eq_true hl
        have hlI : (i : Int) < (ln : Int) := by omega
        have hi0 : (0 : Int) ≤ (i : Int) := by omega
        have wk1 : IntKind.i64.wrap ((i : Int) + 1) = (i : Int) + 1 := by rw [IntKind.wrap_i64]; omega
        have hl' : i < L.length := by rw [HH.out.2.2.2.2.2]; exact hl
        obtain ⟨a, cap, e1, _, _, hr⟩ := (HH.out.1.keepB q).at_ hl'
        rw [HH.out.2.2.2.2.2] at e1
        obtain ⟨rfl, rfl⟩ : lo = some a ∧ lc = cap := by simpa using e1
        obtain ⟨s, hs⟩ : ∃ s, L[i] = s := ⟨_, rfl⟩
        rw [hs] at hr
        have hgs : L[i]? = some s := by rw [List.getElem?_eq_getElem hl', hs]
        have hsm := List.mem_of_getElem? hgs
        have hsI := HH.out.2.1 s hsm
        have hsok := HH.out.2.2.1 s hsm
        have hrn := fun st' => runX_ok (d := d) (st := st) (st' := st') hgs
        have hre := fun n => runX_err (d := d) (st := st) (n := n) hgs
        have hsl := fun st' h => stepX_len (d := d) (i := i) (s := s) (st := st) (st' := st') h hn1 hn2
        obtain ⟨K, N, WS, V, M⟩ := s
        obtain ⟨g0, g1, ⟨sl, g2, g5⟩, g3, g4⟩ := hr
        simp only at g0 g1 g2 g3 g4 g5 hsI
        have qb : B wo (wo.alloc (.cells #[.int .i64 K, .string N, sl, .int .i64 V, .int .i64 M] 67)) := (B.refl _).alloc _ _
        have cS := xstep_any (hW.keep qb) (hO.tnX (qb.tn kX 0)).dk HH.out.2.2.2.1 HH.out.2.2.2.2.1 (q.trans qb).below.size hn1 (by omega) i (by omega) K V M N WS sl (g5.keepB qb) hsI hsok
        obtain ⟨so, sc, rfl⟩ := g5.form
        generalize WS.length = wl at *
        have HR := Lib.hid (And.intro hrun (And.intro hrn (And.intro hre (And.intro hsl (And.intro hl (And.intro (hO.tnX (qb.tn kX 0)) (q.trans qb)))))))
        clear hrun hrn hre hsl hl hO q qb hW hgs hsm hsI hsok g5 hs e1 hl' hi hn1 hn2
        go_wp2_with fail
        refine cS.mono ?_
        rintro e w5 (⟨n, hst, rfl, hn, hT⟩ | ⟨st', ov', sv', hst, rfl, hW5, hT⟩)
        · have hnB : ((n : Int) != 0) = true := by simp; omega
          have HF := Lib.hid (And.intro hst (hT.toB HR.out.2.2.2.2.2.2 (Nat.le_refl _)))
          clear hst hT cS hn g0 g1 g2 g3 g4
          go_wp2
          try simp only [Exit.inBlock, Exit.then]
          refine bodyPost_ret (results_tmp4 rfl _ _ _) rfl ?_
          exact .inr ⟨i, n, by rw [HE.out, HR.out.1, HR.out.2.2.1 n HF.out.1], rfl, HF.out.2⟩
        · have HF := Lib.hid (And.intro hst (And.intro (hT.toB HR.out.2.2.2.2.2.2 (Nat.le_refl _)) (And.intro hW5 hT)))
          clear hst hT hW5 cS g0 g1 g2 g3 g4
          go_wp2
          go_roundw
          case rel => exact ⟨i + 1, st', ov', sv', by have := HR.out.2.2.2.2.1; omega, by go_num, HF.out.2.2.1, HR.out.2.2.2.2.2.1.tnX HF.out.2.2.2, by rw [HR.out.1, HR.out.2.1 st' HF.out.1], (HR.out.2.2.2.1 st' HF.out.1).1, (HR.out.2.2.2.1 st' HF.out.1).2, HF.out.2.1⟩
          case measure => have := HR.out.2.2.2.2.1; simp [intOf]; omega
      · have hlB : decide ((i : Int) < (ln : Int)) = false := decide_eq_false (by omega)
        have hlN : decide (i < ln) = false := decide_eq_false hl
        rw [List.drop_eq_nil_of_le (by rw [HH.out.2.2.2.2.2]; omega), runX] at hrun
        obtain ⟨oo, oc, rfl⟩ := own_slice hW.ro
        obtain ⟨so, sc, rfl⟩ := own_slice hW.rs
        have k5 := obj_cell hW.obj 5
        have k6 := obj_cell hW.obj 6
        have HF := Lib.hid (And.intro hrun (And.intro hW q))
        clear hrun hW hO q hi hl
        generalize hA : st.ops.length = A at *
        generalize hC : st.of.length = C at *
        subst hn2
        have HA := Lib.hid (And.intro hA hC)
        clear hA hC
        go_wp2_with fail
        go_quiet (fail)
        go_wp2
        try simp only [Exit.inBlock, Exit.then]
        refine bodyPost_ret (results_tmp4 rfl _ _ _) rfl ?_
        exact opsRes_ok (by rw [HE.out, HF.out.1]) HA.out.1 HA.out.2 (row_keep HF.out.2.1.ro ((B.refl _).drewN _)) (row_keep HF.out.2.1.rs ((B.refl _).drewN _)) (HF.out.2.2.drewN _)
end
end Go.Proofs.YtjdkhobkdlldnaaGreatDoor

namespace Go.Proofs.YtjdkhobkdlldnaaGreatDoor
open Go.RowKit
set_option linter.unusedVariables false
theorem nameS_sz {n : ByteArray} (h : nameS n = true) : n.size ≤ 16 := by
  unfold nameS at h
  have h16 := of_decide_eq_true (Bool.and_eq_true_iff.1 (Bool.and_eq_true_iff.1 (Bool.and_eq_true_iff.1 h).1).1).2
  omega
theorem indexC_has : ∀ (ws : List Wr) (K : Int) (n : ByteArray) (r c : Int), (indexC ws K n r c).isSome = true → ∃ w ∈ ws, hasB w.n w.x w.y n r c = true
  | [], _, _, _, _, h => by cases h
  | w :: ws, K, n, r, c, h => by
    rw [indexC] at h
    split at h
    · rename_i hh
      exact ⟨w, List.mem_cons_self .., hh⟩
    · obtain ⟨v, hv, e⟩ := indexC_has ws _ n r c h
      exact ⟨v, List.mem_cons_of_mem _ hv, e⟩
/-- What a right deck's names and numbers are. -/
structure Small (d : Dk) : Prop where
  wn : ∀ r ∈ d.ws, r.n.size ≤ maxLen
  wi : ∀ r ∈ d.ws, I64 r.x ∧ I64 r.y
  tn : ∀ r ∈ d.ts, r.n.size ≤ maxLen
  fi : ∀ f ∈ d.fs, f.n.size ≤ maxLen ∧ I64 f.r ∧ I64 f.c
theorem rightD_small {d : Dk} (h : rightD d = true) : Small d := by
  obtain ⟨_, _, pW, pT⟩ := right_parts9 h
  have hw : ∀ r ∈ d.ws, nameS r.n = true ∧ (1 ≤ r.x ∧ r.x ≤ 8) ∧ (1 ≤ r.y ∧ r.y ≤ 12) := fun r hr => by
    obtain ⟨i, hi⟩ := List.getElem?_of_mem hr
    have := (apart_at pW hi).1
    unfold wareOk at this
    simp only [Bool.and_eq_true, inB, decide_eq_true_eq] at this
    exact ⟨this.1.1.1.1, this.1.1.1.2, this.1.1.2⟩
  have ht : ∀ r ∈ d.ts, nameS r.n = true := fun r hr => by
    obtain ⟨i, hi⟩ := List.getElem?_of_mem hr
    have := (apart_at pT hi).1
    unfold tipOk at this
    simp only [Bool.and_eq_true] at this
    exact this.1.1.1.1
  refine ⟨fun r hr => ?_, fun r hr => ?_, fun r hr => ?_, fun f hf => ?_⟩
  · have := nameS_sz (hw r hr).1; unfold maxLen; omega
  · obtain ⟨_, h1, h2⟩ := hw r hr; unfold I64; omega
  · have := nameS_sz (ht r hr); unfold maxLen; omega
  · obtain ⟨i, hi⟩ := List.getElem?_of_mem hf
    obtain ⟨⟨k, hk, _⟩, _⟩ := right_fill h hi
    obtain ⟨w, hwm, hb⟩ := indexC_has d.ws 0 f.n f.r f.c (by rw [hk]; rfl)
    obtain ⟨h1, h2, h3, h4⟩ := hasB_in hb
    obtain ⟨hn, hx, hy⟩ := hw w hwm
    unfold hasB at hb
    simp only [Bool.and_eq_true, beq_iff_eq] at hb
    have e : w.n = f.n := ba_eq hb.1.1
    have := nameS_sz hn
    rw [e] at this
    unfold maxLen I64
    omega
theorem fillsF_len (ws : List Wr) : ∀ (l : List Nat) (i : Nat), (fillsF ws i l).length ≤ l.length
  | [], _ => by simp [fillsF]
  | x :: l, i => by
    have ih := fillsF_len ws l (i + 1)
    unfold fillsF
    split
    · simp; omega
    · split
      · simp; omega
      · simp; omega
theorem dnew_right (wv tv fv : Value) (d : Dk) (w : World) (h : IsDk w wv tv fv d) (hr : rightD d = true) (hf9 : d.fs.length < 1000) :
    Calls Tryz.prog 56 #[.agg #[wv, tv, fv]] w fun e w' => ∃ (P : Bp) (X : List Th), e = .returned (.tuple #[.pointer (some ⟨P.b, 0, none⟩), .int .i64 0]) ∧ P.d = d ∧ BoardM P w' 0 [] X ∧ w.heap.size ≤ P.lo ∧ P.top = w'.heap.size ∧ B w w' :=
  have s := rightD_small hr
  dnew_yes wv tv fv d w h hr s.wn s.wi s.tn s.fi hf9
theorem BoardM.low {P : Bp} {w : World} {m9 : Nat} {E : List Ent} {X : List Th} (h : BoardM P w m9 E X) : P.lo ≤ P.bm ∧ ∀ i, P.S i → P.lo ≤ i := by
  have h1 := h.lohi
  have h2 := h.hibm
  refine ⟨by omega, fun i hi => ?_⟩
  have := (h.sLow i hi).1
  omega
end Go.Proofs.YtjdkhobkdlldnaaGreatDoor

namespace Go.Proofs.YtjdkhobkdlldnaaGreatDoor
open Go.RowKit
theorem amount_any (a : Int) (ha : I64 a) (w : World) :
    Calls Tryz.prog 147 #[.int .i64 a] w fun e w' => e = .returned (.int .u64 (a.natAbs : Int)) ∧ w = w' := by
  unfold I64 at ha
  obtain ⟨h1, h2⟩ := ha
  by_cases hn : a < 0
  · have e : IntKind.u64.wrap (-IntKind.u64.wrap a) = (a.natAbs : Int) := by rw [wrapU, wrapU]; omega
    go_enter Tryz.func147, Tryz.ntmps147
    go_wp2
    go_ret
    exact ⟨rfl, rfl⟩
  · have e : IntKind.u64.wrap a = (a.natAbs : Int) := by rw [wrapU]; omega
    go_enter Tryz.func147, Tryz.ntmps147
    go_wp2
    go_ret
    exact ⟨rfl, rfl⟩
/-- The halves of a product. -/
def hi64 (x y : Nat) : Nat := x * y / 18446744073709551616
def lo64 (x y : Nat) : Nat := x * y % 18446744073709551616
theorem low_or (p m : Nat) (hp : p < 4294967296) : bits .or .u64 (p : Int) ((m * 4294967296 % 18446744073709551616 : Nat) : Int) = ((p + m * 4294967296 % 18446744073709551616 : Nat) : Int) := by
  rw [bits_or_u64_nat _ _ (by omega) (Nat.mod_lt _ (by omega)), Nat.or_comm, or_join 32 _ _ (by omega) (by omega)]
  omega
/-- The numbers that the walk meets. -/
theorem times_nums (x y : Nat) (hx : x < 18446744073709551616) (hy : y < 18446744073709551616) :
    ∃ a0 a1 b0 b1 P Z R S P0 P1 Z0 Z1 R0 R1 ML LO : Nat,
      bits .and .u64 (x : Int) 4294967295 = (a0 : Int) ∧ (x : Int) / 4294967296 = (a1 : Int) ∧ bits .and .u64 (y : Int) 4294967295 = (b0 : Int) ∧ (y : Int) / 4294967296 = (b1 : Int) ∧
      IntKind.u64.wrap ((a0 : Int) * (b0 : Int)) = (P : Int) ∧ IntKind.u64.wrap ((a1 : Int) * (b0 : Int)) = (Z : Int) ∧ IntKind.u64.wrap ((a0 : Int) * (b1 : Int)) = (R : Int) ∧ IntKind.u64.wrap ((a1 : Int) * (b1 : Int)) = (S : Int) ∧
      bits .and .u64 (P : Int) 4294967295 = (P0 : Int) ∧ (P : Int) / 4294967296 = (P1 : Int) ∧ bits .and .u64 (Z : Int) 4294967295 = (Z0 : Int) ∧ (Z : Int) / 4294967296 = (Z1 : Int) ∧ bits .and .u64 (R : Int) 4294967295 = (R0 : Int) ∧ (R : Int) / 4294967296 = (R1 : Int) ∧
      (P0 < 4294967296 ∧ P1 < 4294967296 ∧ Z0 < 4294967296 ∧ Z1 < 4294967296 ∧ R0 < 4294967296 ∧ R1 < 4294967296 ∧ S ≤ 18446744065119617025) ∧
      IntKind.u64.wrap (((P1 : Int) + (Z0 : Int) + (R0 : Int)) * 4294967296) = (ML : Int) ∧ bits .or .u64 (P0 : Int) (ML : Int) = (LO : Int) ∧
      IntKind.u64.wrap ((S : Int) + (Z1 : Int) + (R1 : Int) + ((P1 : Int) + (Z0 : Int) + (R0 : Int)) / 4294967296) = (hi64 x y : Int) ∧ LO = lo64 x y := by
  have e : x * y = (x / 4294967296) * (y / 4294967296) * (4294967296 * 4294967296) + ((x / 4294967296) * (y % 4294967296) + (x % 4294967296) * (y / 4294967296)) * 4294967296 + (x % 4294967296) * (y % 4294967296) := by
    rw [← Lib.split_mul, Nat.div_add_mod' x 4294967296, Nat.div_add_mod' y 4294967296]
  have ha := Lib.half_mul_le (a := x / 4294967296) (b := y / 4294967296) (by omega) (by omega)
  have hb := Lib.half_mul_le (a := x / 4294967296) (b := y % 4294967296) (by omega) (by omega)
  have hc := Lib.half_mul_le (a := x % 4294967296) (b := y / 4294967296) (by omega) (by omega)
  have hd := Lib.half_mul_le (a := x % 4294967296) (b := y % 4294967296) (by omega) (by omega)
  have m0 := maskN x hx
  have m1 := maskN y hy
  have d0 : (x : Int) / 4294967296 = ((x / 4294967296 : Nat) : Int) := by omega
  have d1 : (y : Int) / 4294967296 = ((y / 4294967296 : Nat) : Int) := by omega
  unfold hi64 lo64
  rw [e]
  clear e
  generalize x / 4294967296 = a1 at *
  generalize x % 4294967296 = a0 at *
  generalize y / 4294967296 = b1 at *
  generalize y % 4294967296 = b0 at *
  refine ⟨a0, a1, b0, b1, a0 * b0, a1 * b0, a0 * b1, a1 * b1, a0 * b0 % 4294967296, a0 * b0 / 4294967296, a1 * b0 % 4294967296, a1 * b0 / 4294967296, a0 * b1 % 4294967296, a0 * b1 / 4294967296,
    (a0 * b0 / 4294967296 + a1 * b0 % 4294967296 + a0 * b1 % 4294967296) * 4294967296 % 18446744073709551616, a0 * b0 % 4294967296 + (a0 * b0 / 4294967296 + a1 * b0 % 4294967296 + a0 * b1 % 4294967296) * 4294967296 % 18446744073709551616,
    m0, d0, m1, d1, ?_, ?_, ?_, ?_, ?_, ?_, ?_, ?_, ?_, ?_, ?_, ?_, ?_, ?_, ?_⟩
  · rw [← Int.natCast_mul]; exact wrapN _ (by omega)
  · rw [← Int.natCast_mul]; exact wrapN _ (by omega)
  · rw [← Int.natCast_mul]; exact wrapN _ (by omega)
  · rw [← Int.natCast_mul]; exact wrapN _ (by omega)
  all_goals
    generalize a0 * b0 = P at *
    generalize a1 * b0 = Z at *
    generalize a0 * b1 = R at *
    generalize a1 * b1 = S at *
  · exact maskN _ (by omega)
  · omega
  · exact maskN _ (by omega)
  · omega
  · exact maskN _ (by omega)
  · omega
  · omega
  · rw [← wrapM]; congr 1
  · exact low_or _ _ (by omega)
  · rw [wrapU]; omega
  · omega
/-- The document's product of halves. -/
theorem times_any (x y : Nat) (hx : x < 18446744073709551616) (hy : y < 18446744073709551616) (w : World) :
    Calls Tryz.prog 146 #[.int .u64 x, .int .u64 y] w fun e w' => e = .returned (.agg #[.int .u64 (hi64 x y), .int .u64 (lo64 x y)]) ∧ Q w w' := by
  obtain ⟨a0, a1, b0, b1, P, Z, R, S, P0, P1, Z0, Z1, R0, R1, ML, LO, e1, e2, e3, e4, e5, e6, e7, e8, e9, e10, e11, e12, e13, e14, ⟨u1, u2, u3, u4, u5, u6, u7⟩, e15, e16, e17, e18⟩ := times_nums x y hx hy
  subst e18
  go_enter Tryz.func146, Tryz.ntmps146
  go_wp2
  refine bodyPost_ret (v := .agg #[.int .u64 (hi64 x y), .int .u64 (lo64 x y)]) (by simp [results, Tryz.results146, go_sem]) rfl ⟨rfl, ?_⟩
  exact (Q.refl w).alloc _ _
/-- Is an amount of halves, with a sign, a number of 64 bits? -/
theorem long_fits (hi lo : Nat) (neg : Bool) (hlo : lo < 18446744073709551616) : I64 (sg neg (hi * 18446744073709551616 + lo)) ↔ (hi = 0 ∧ (lo < 9223372036854775808 ∨ (lo = 9223372036854775808 ∧ neg = true))) := by
  cases neg
  · rw [sg_fits_pos]; simp; omega
  · rw [sg_fits_neg]; simp; omega
theorem rsigned_any (hi lo : Nat) (neg : Bool) (hlo : lo < 18446744073709551616) (w : World) :
    Calls Tryz.prog 149 #[.agg #[.int .u64 hi, .int .u64 lo], .bool neg] w fun e w' => e = .returned (.tuple #[.int .i64 (qv (sg neg (hi * 18446744073709551616 + lo))), .bool (decide (I64 (sg neg (hi * 18446744073709551616 + lo))))]) ∧ Q w w' := by
  have hf := long_fits hi lo neg hlo
  by_cases h : I64 (sg neg (hi * 18446744073709551616 + lo))
  · rw [qv_yes h, decide_eq_true h]
    obtain ⟨rfl, h'⟩ := hf.1 h
    rw [Nat.zero_mul, Nat.zero_add]
    have b1 : decide ((9223372036854775808 : Int) < (lo : Int)) = false := decide_eq_false (by omega)
    clear hf h
    cases neg
    · have b2 : ((lo : Int) == 9223372036854775808) = false := by rw [beq_eq_false_iff_ne]; simp at h'; omega
      have e : IntKind.i64.wrap (lo : Int) = sg false lo := by rw [IntKind.wrap_i64]; unfold sg; simp at h' ⊢; omega
      clear h'
      go_enter Tryz.func149, Tryz.ntmps149
      go_wp2
      go_ret2
      exact ⟨rfl, (Q.refl w).alloc _ _⟩
    · have e : IntKind.i64.wrap (IntKind.u64.wrap (-(lo : Int))) = sg true lo := by rw [IntKind.wrap_i64, wrapU]; unfold sg; simp at h' ⊢; omega
      have b2 : ((lo : Int) == 9223372036854775808) = true ∨ ((lo : Int) == 9223372036854775808) = false := by cases (lo : Int) == 9223372036854775808 <;> simp
      clear h'
      rcases b2 with b2 | b2
      all_goals
        go_enter Tryz.func149, Tryz.ntmps149
        go_wp2
        go_ret2
        exact ⟨rfl, (Q.refl w).alloc _ _⟩
  · rw [qv_no h, decide_eq_false h]
    have h' : ¬ (hi = 0 ∧ (lo < 9223372036854775808 ∨ (lo = 9223372036854775808 ∧ neg = true))) := fun c => h (hf.2 c)
    clear hf h
    by_cases h0 : hi = 0
    · subst h0
      by_cases h1 : 9223372036854775808 < lo
      · have b1 : decide ((9223372036854775808 : Int) < (lo : Int)) = true := decide_eq_true (by omega)
        clear h' h1
        go_enter Tryz.func149, Tryz.ntmps149
        go_wp2
        go_ret2
        exact ⟨rfl, (Q.refl w).alloc _ _⟩
      · have h2 : lo = 9223372036854775808 := by
          by_cases c : lo < 9223372036854775808
          · exact absurd ⟨rfl, Or.inl c⟩ h'
          · omega
        have h3 : neg = false := by
          cases neg
          · rfl
          · exact absurd ⟨rfl, Or.inr ⟨h2, rfl⟩⟩ h'
        have b1 : decide ((9223372036854775808 : Int) < (lo : Int)) = false := decide_eq_false (by omega)
        have b2 : ((lo : Int) == 9223372036854775808) = true := by rw [beq_iff_eq]; omega
        subst h3
        clear h' h1 h2
        go_enter Tryz.func149, Tryz.ntmps149
        go_wp2
        go_ret2
        exact ⟨rfl, (Q.refl w).alloc _ _⟩
    · have b0 : ((hi : Int) != 0) = true := by simpa using h0
      clear h' h0
      go_enter Tryz.func149, Tryz.ntmps149
      go_wp2
      go_ret2
      exact ⟨rfl, (Q.refl w).alloc _ _⟩
theorem told_any (v : Int) (c : Prop) [Decidable c] (w : World) :
    Calls Tryz.prog 148 #[.int .i64 v, .bool (decide c)] w fun e w' => e = .returned (.tuple #[.int .i64 (if c then v else 0), .int .i64 (if c then 0 else 21)]) ∧ w = w' := by
  by_cases h : c
  · rw [decide_eq_true h, if_pos h, if_pos h]
    clear h
    go_enter Tryz.func148, Tryz.ntmps148
    go_wp2
    go_ret2
    exact ⟨rfl, rfl⟩
  · rw [decide_eq_false h, if_neg h, if_neg h]
    clear h
    go_enter Tryz.func148, Tryz.ntmps148
    go_wp2
    go_ret2
    exact ⟨rfl, rfl⟩
/-- What 'told' says of a number that 'signed' gave. -/
theorem told_qv (v : Int) (w : World) :
    Calls Tryz.prog 148 #[.int .i64 (qv v), .bool (decide (I64 v))] w fun e w' => e = .returned (.tuple #[.int .i64 (qv v), .int .i64 (qe v)]) ∧ w = w' := by
  refine (told_any (qv v) (I64 v) w).mono fun e w' h => ⟨?_, h.2⟩
  rw [h.1]
  by_cases c : I64 v
  · rw [if_pos c, if_pos c, qe_yes c]
  · rw [if_neg c, if_neg c, qv_no c, qe_no c]
theorem halves (x y : Nat) : hi64 x y * 18446744073709551616 + lo64 x y = x * y := Nat.div_add_mod' _ _
theorem lo64_lt (x y : Nat) : lo64 x y < 18446744073709551616 := Nat.mod_lt _ (by omega)
end Go.Proofs.YtjdkhobkdlldnaaGreatDoor

namespace Go.Proofs.YtjdkhobkdlldnaaGreatDoor
/-- The document's division, bit by bit: with n bits to go. -/
structure Dv (N D n qh ql r : Nat) : Prop where
  quo : qh * 18446744073709551616 + ql = N / 2 ^ n / D * 2 ^ n
  rest : r = N / 2 ^ n % D
  lo : ql < 18446744073709551616
theorem two64 (m : Nat) (h : 64 ≤ m) : 2 ^ m = 18446744073709551616 * 2 ^ (m - 64) := by
  rw [show (18446744073709551616 : Nat) = 2 ^ 64 from by decide, ← Nat.pow_add, show 64 + (m - 64) = m by omega]
theorem low64 (m : Nat) (h : m < 64) : (18446744073709551616 : Nat) = 2 ^ m * (2 * 2 ^ (63 - m)) := by
  have e : 64 = m + (1 + (63 - m)) := by omega
  rw [show (18446744073709551616 : Nat) = 2 ^ 64 from by decide]
  conv => lhs; rw [e]
  rw [Nat.pow_add, Nat.pow_add, Nat.pow_one]
theorem bit_high (hi lo m : Nat) (hlo : lo < 18446744073709551616) (hm : 64 ≤ m) : (hi * 18446744073709551616 + lo) / 2 ^ m = hi / 2 ^ (m - 64) := by
  rw [two64 m hm, ← Nat.div_div_eq_div_mul]
  congr 1
  omega
theorem bit_low (hi lo m : Nat) (hm : m < 64) : (hi * 18446744073709551616 + lo) / 2 ^ m % 2 = lo / 2 ^ m % 2 := by
  rw [low64 m hm, Nat.mul_comm hi, Nat.mul_assoc, Nat.mul_add_div (Nat.two_pow_pos m), Nat.mul_assoc, Nat.mul_add_mod]
/-- One bit more: the quotient and the rest. -/
theorem div_step (X D b : Nat) (hD : 0 < D) (hb : b < 2) :
    (D ≤ 2 * (X % D) + b → (2 * X + b) / D = 2 * (X / D) + 1 ∧ (2 * X + b) % D = 2 * (X % D) + b - D) ∧
    (¬ D ≤ 2 * (X % D) + b → (2 * X + b) / D = 2 * (X / D) ∧ (2 * X + b) % D = 2 * (X % D) + b) := by
  have h := Nat.div_add_mod X D
  have hl := Nat.mod_lt X hD
  generalize X / D = q at *
  generalize X % D = r at *
  constructor
  · intro c
    have e : 2 * X + b = (2 * r + b - D) + D * (2 * q + 1) := by rw [Nat.mul_add, Nat.mul_left_comm]; omega
    rw [e, Nat.add_mul_div_left _ _ hD, Nat.add_mul_mod_self_left, Nat.div_eq_of_lt (by omega), Nat.mod_eq_of_lt (by omega)]
    omega
  · intro c
    have e : 2 * X + b = (2 * r + b) + D * (2 * q) := by rw [Nat.mul_left_comm]; omega
    rw [e, Nat.add_mul_div_left _ _ hD, Nat.add_mul_mod_self_left, Nat.div_eq_of_lt (by omega), Nat.mod_eq_of_lt (by omega)]
    omega
theorem half_step (N m : Nat) : N / 2 ^ m = 2 * (N / 2 ^ (m + 1)) + N / 2 ^ m % 2 := by
  rw [Nat.pow_succ, ← Nat.div_div_eq_div_mul]; omega
theorem Dv.take {N D m qh ql r : Nat} (hD : 0 < D) (d : Dv N D (m + 1) qh ql r) (h : D ≤ 2 * r + N / 2 ^ m % 2) :
    qh * 18446744073709551616 + ql + 2 ^ m = N / 2 ^ m / D * 2 ^ m ∧ 2 * r + N / 2 ^ m % 2 - D = N / 2 ^ m % D := by
  have s := (div_step (N / 2 ^ (m + 1)) D (N / 2 ^ m % 2) hD (Nat.mod_lt _ (by omega))).1
  rw [← d.rest, ← half_step] at s
  have s' := s h
  have q := d.quo
  refine ⟨?_, s'.2.symm⟩
  rw [q, s'.1, Nat.pow_succ, Nat.add_mul, Nat.mul_comm 2, Nat.mul_assoc, Nat.mul_comm (2 ^ m) 2, Nat.one_mul]
theorem Dv.leave {N D m qh ql r : Nat} (hD : 0 < D) (d : Dv N D (m + 1) qh ql r) (h : ¬ D ≤ 2 * r + N / 2 ^ m % 2) : Dv N D m qh ql (2 * r + N / 2 ^ m % 2) := by
  have s := (div_step (N / 2 ^ (m + 1)) D (N / 2 ^ m % 2) hD (Nat.mod_lt _ (by omega))).2
  rw [← d.rest, ← half_step] at s
  have s' := s h
  have q := d.quo
  refine ⟨?_, s'.2.symm, d.lo⟩
  rw [q, s'.1]
  generalize N / 2 ^ (m + 1) / D = X
  rw [Nat.pow_succ, Nat.mul_comm 2 X, Nat.mul_assoc, Nat.mul_comm (2 ^ m) 2]
theorem Dv.hi_lt {N D n qh ql r : Nat} (d : Dv N D n qh ql r) (hN : N < 18446744073709551616 * 18446744073709551616) : qh < 18446744073709551616 := by
  have q := d.quo
  have h1 : N / 2 ^ n / D * 2 ^ n ≤ N := Nat.le_trans (Nat.mul_le_mul_right _ (Nat.div_le_self _ _)) (Nat.div_mul_le_self _ _)
  omega
theorem Dv.dvd {N D n qh ql r : Nat} (d : Dv N D n qh ql r) : 2 ^ n ∣ qh * 18446744073709551616 + ql := ⟨N / 2 ^ n / D, by rw [d.quo, Nat.mul_comm]⟩
/-- The bit of the quotient that is set, in its half. -/
theorem set_high {N D m qh ql r : Nat} (d : Dv N D (m + 1) qh ql r) (hN : N < 18446744073709551616 * 18446744073709551616) (hm : 64 ≤ m) (hm2 : m < 128) :
    IntKind.u64.wrap ((2 : Int) ^ (m - 64)) = ((2 ^ (m - 64) : Nat) : Int) ∧ bits .or .u64 (qh : Int) ((2 ^ (m - 64) : Nat) : Int) = ((qh + 2 ^ (m - 64) : Nat) : Int) ∧
      (qh + 2 ^ (m - 64)) * 18446744073709551616 + ql = qh * 18446744073709551616 + ql + 2 ^ m := by
  have hp : 2 ^ (m - 64) ≤ 2 ^ 63 := Nat.pow_le_pow_right (by omega) (by omega)
  have hd := d.dvd
  have hlo := d.lo
  have h64 : 2 ^ (m + 1) = 18446744073709551616 * 2 ^ (m + 1 - 64) := two64 (m + 1) (by omega)
  have hq : 2 ^ (m - 64 + 1) ∣ qh := by
    rw [h64, show m + 1 - 64 = m - 64 + 1 by omega] at hd
    obtain ⟨k, hk⟩ := hd
    rw [Nat.mul_assoc] at hk
    refine ⟨k, ?_⟩
    omega
  refine ⟨?_, ?_, ?_⟩
  · rw [show ((2 : Int) ^ (m - 64)) = ((2 ^ (m - 64) : Nat) : Int) by push_cast; rfl]; exact wrapN _ (by omega)
  · rw [bits_or_u64_nat _ _ (d.hi_lt hN) (by omega), or_join (m - 64 + 1) _ _ hq (Nat.pow_lt_pow_right (by omega) (by omega))]
  · rw [two64 m hm, Nat.add_mul, Nat.mul_comm (2 ^ (m - 64))]; omega
theorem set_low {N D m qh ql r : Nat} (d : Dv N D (m + 1) qh ql r) (hm : m < 64) :
    IntKind.u64.wrap ((2 : Int) ^ m) = ((2 ^ m : Nat) : Int) ∧ bits .or .u64 (ql : Int) ((2 ^ m : Nat) : Int) = ((ql + 2 ^ m : Nat) : Int) ∧ ql + 2 ^ m < 18446744073709551616 := by
  have hp : 2 ^ m ≤ 2 ^ 63 := Nat.pow_le_pow_right (by omega) (by omega)
  have hd := d.dvd
  have hlo := d.lo
  have h64 := low64 m hm
  have hq : 2 ^ (m + 1) ∣ ql := by
    have h1 : 2 ^ (m + 1) ∣ qh * 18446744073709551616 := by
      rw [h64, ← Nat.mul_assoc (2 ^ m), ← Nat.pow_succ]
      exact ⟨qh * 2 ^ (63 - m), by rw [Nat.mul_left_comm]⟩
    exact (Nat.dvd_add_right h1).1 hd
  refine ⟨?_, ?_, ?_⟩
  · rw [show ((2 : Int) ^ m) = ((2 ^ m : Nat) : Int) by push_cast; rfl]; exact wrapN _ (by omega)
  · rw [bits_or_u64_nat _ _ hlo (by omega), or_join (m + 1) _ _ hq (Nat.pow_lt_pow_right (by omega) (by omega))]
  · obtain ⟨k, hk⟩ := hq
    have h2 : 2 ^ m * (2 * k) < 2 ^ m * (2 * 2 ^ (63 - m)) := by rw [← h64, ← Nat.mul_assoc, ← Nat.pow_succ, ← hk]; exact hlo
    have h3 := Nat.lt_of_mul_lt_mul_left h2
    have h4 := Nat.mul_le_mul_left (2 ^ m) (show 2 * k + 2 ≤ 2 * 2 ^ (63 - m) by omega)
    rw [← h64, Nat.mul_add, ← Nat.mul_assoc, ← Nat.pow_succ, ← hk] at h4
    omega
theorem mask1 (a : Nat) (ha : a < 18446744073709551616) : bits .and .u64 (a : Int) 1 = ((a % 2 : Nat) : Int) := by
  have h := bits_and_u64_nat a 1 ha (by omega)
  have e : a &&& 1 = a % 2 := Nat.and_two_pow_sub_one_eq_mod a 1
  rw [e] at h
  exact h
theorem or_bit1 (a b : Nat) (hb : b < 2) : bits .or .u64 ((a * 2 % 18446744073709551616 : Nat) : Int) (b : Int) = ((a * 2 % 18446744073709551616 + b : Nat) : Int) := by
  rw [bits_or_u64_nat _ _ (Nat.mod_lt _ (by omega)) (by omega), or_join 1 _ _ (by omega) (by omega)]
/-- What a round does to the rest, and which way it goes. -/
theorem rest_ways (r b D : Nat) (hb : b < 2) (hr : r < D) (hD : D < 18446744073709551616) :
    ∃ O R2 R3 : Nat, (r : Int) / 9223372036854775808 = (O : Int) ∧ IntKind.u64.wrap ((r : Int) * 2) = (R2 : Int) ∧ bits .or .u64 (R2 : Int) (b : Int) = (R3 : Int) ∧
      ((D ≤ 2 * r + b ∧ ∃ R4 : Nat, IntKind.u64.wrap ((R3 : Int) - (D : Int)) = (R4 : Int) ∧ R4 = 2 * r + b - D ∧ (((O : Int) == 1) = true ∨ (((O : Int) == 1) = false ∧ decide (D ≤ R3) = true))) ∨
       (¬ D ≤ 2 * r + b ∧ R3 = 2 * r + b ∧ ((O : Int) == 1) = false ∧ decide (D ≤ R3) = false)) := by
  refine ⟨r / 9223372036854775808, r * 2 % 18446744073709551616, r * 2 % 18446744073709551616 + b, by omega, ?_, or_bit1 r b hb, ?_⟩
  · rw [show ((r : Int) * 2) = ((r * 2 : Nat) : Int) by omega]; exact wrapM _
  · by_cases h : D ≤ 2 * r + b
    · refine Or.inl ⟨h, 2 * r + b - D, ?_, rfl, ?_⟩
      · rw [wrapU]; omega
      · by_cases c : r / 9223372036854775808 = 1
        · exact Or.inl (by rw [beq_iff_eq]; omega)
        · exact Or.inr ⟨by rw [beq_eq_false_iff_ne]; omega, decide_eq_true (by omega)⟩
    · exact Or.inr ⟨h, by omega, by rw [beq_eq_false_iff_ne]; omega, decide_eq_false (by omega)⟩
/-- The bit that a round reads. -/
theorem bit_read_high (hi lo m : Nat) (hhi : hi < 18446744073709551616) (hlo : lo < 18446744073709551616) (hm : 64 ≤ m) :
    bits .and .u64 ((hi : Int) / 2 ^ (m - 64)) 1 = (((hi * 18446744073709551616 + lo) / 2 ^ m % 2 : Nat) : Int) := by
  rw [bit_high hi lo m hlo hm, ← mask1 _ (Nat.lt_of_le_of_lt (Nat.div_le_self _ _) hhi)]
  push_cast; rfl
theorem bit_read_low (hi lo m : Nat) (hlo : lo < 18446744073709551616) (hm : m < 64) :
    bits .and .u64 ((lo : Int) / 2 ^ (m % 64)) 1 = (((hi * 18446744073709551616 + lo) / 2 ^ m % 2 : Nat) : Int) := by
  rw [bit_low hi lo m hm, ← mask1 _ (Nat.lt_of_le_of_lt (Nat.div_le_self _ _) hlo), Nat.mod_eq_of_lt hm]
  push_cast; rfl
theorem Dv.first (N D : Nat) (hN : N < 18446744073709551616 * 18446744073709551616) : Dv N D 128 0 0 0 := by
  have h : N / 2 ^ 128 = 0 := Nat.div_eq_of_lt (Nat.lt_of_lt_of_eq hN (by decide))
  exact ⟨by rw [h, Nat.zero_div, Nat.zero_mul], by rw [h, Nat.zero_mod], by decide⟩
end Go.Proofs.YtjdkhobkdlldnaaGreatDoor
